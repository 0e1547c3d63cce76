import PyProof.Rows.All
import Wide.All
import OpenK.AllK
import Wide.FinOn
import HandS.Base
import HandS.Call
import HandS.List
import HandS.Comp
import HandS.Ends
import HandS.Words
import HandS.WordsList
import HandS.Exc
import HandS.TryOnly
import HandS.ExcOwn
import HandS.WordsExc
import HandS.TryMany
import HandS.ClsMeth
import HandS.IsInst
import HandS.TupAny
import HandS.TupMul
import HandS.Conv
import HandS.Zip
import HandS.Codes

import HandS.SlotsOwn
import HandS.Wide
import HandS.WideBits
import HandS.Iter
import KE.IntBitsLaws
import KE.GoesNew
import KE.GoesMore
import PyProof.Rows.ChunkEnd
import PySem.Challenge.RW_twicewashed_k06_weigh_refuses
set_option Elab.async false
set_option maxRecDepth 100000
set_option maxHeartbeats 4000000
namespace RD
open PySem L2
section
variable {σ σ' : L2.St} {H H1 : Hp} {Q : VK} {D : Ends} {v x y : V} {ta tb tc te : TE} {t u c : TT} {s1 s2 ts : TS} {r r' : R2} {K : PySem.W.Frag} {p a C dx : Addr} {xs ys vs : List V} {i j k : Int} {b b' : Bool} {A : TA}
/-! statements -/
theorem r_start {N : List Str} (e : start N vs = σ') (q : ts D σ' H) : ts D (start N vs) H := e ▸ q
theorem r_seq (h : s1 { D with nx := s2 D } σ H) : tSeq s1 s2 D σ H := h
theorem r_next (h : D.nx σ H) : tNext D σ H := h
theorem r_drop (h : te σ H fun _ H1 => D.nx σ H1) : tDrop te D σ H := h
theorem r_ret (h : te σ H D.rt) : tRet te D σ H := h
theorem r_retN (h : D.rt .non H) : tRetN D σ H := h
theorem r_ifS (h : c σ H fun b H1 => if b = true then s1 D σ H1 else s2 D σ H1) : tIfS c s1 s2 D σ H := h
theorem r_asg {g : TG} (h : te σ H fun x H1 => g x σ H1 D.nx) : tAsg te g D σ H := h
inductive SetAt {α : Type} : List α → Nat → α → List α → Prop
  | zero {x v : α} {l : List α} : SetAt (x :: l) 0 v (v :: l)
  | succ {x v : α} {l l' : List α} {n : Nat} (h : SetAt l n v l') : SetAt (x :: l) (n + 1) v (x :: l')
theorem SetAt.eq {α : Type} {l l' : List α} {n : Nat} {v : α} (h : SetAt l n v l') : l.set n v = l' := by
  induction h with
  | zero => rfl
  | succ _ ih => rw [List.set_cons_succ, ih]
theorem SetAt.lt {α : Type} {l l' : List α} {n : Nat} {v : α} (h : SetAt l n v l') : n < l.length := by
  induction h with
  | zero => exact Nat.succ_pos _
  | succ _ ih => exact Nat.succ_lt_succ ih
theorem r_name {n : Nat} {R : L2.St → Hp → Prop} (h : SetAt σ n (some v) σ') (q : R σ' H) : gName n v σ H R := by
  show R (σ.set n (some v)) H
  rw [h.eq]; exact q
theorem r_gsub {to ti : TE} {tset : TSet} {R : L2.St → Hp → Prop} (h : to σ H fun o H1 => ti σ H1 fun i H2 => tset o i v H2 fun H3 => R σ H3) : gSub to ti tset v σ H R := h
theorem ixN_nat {m n : Nat} (h : n < m) : ixN m (Int.ofNat n) = some n := by
  show ixN m (n : Int) = some n
  unfold ixN
  rw [if_pos (by omega), if_pos (by omega)]; simp
theorem r_setL {n : Nat} {R : Hp → Prop} (hp : H p = some (.lst xs)) (hi : i = Int.ofNat n) (hs : SetAt xs n v ys) (q : R (upd H p (.lst ys))) : rSetL (.ref p) (.int i) v H R := ⟨p, xs, i, n, rfl, rfl, hp, by rw [hi]; exact ixN_nat hs.lt, by rw [hs.eq]; exact q⟩
theorem r_gtup {n : Nat} {g : TGs} {R : L2.St → Hp → Prop} (h : SqT K H p xs) (e : xs.length = n) (q : g xs σ H R) : gTup K n g (.ref p) σ H R := ⟨p, xs, rfl, h, e, q⟩
theorem r_gnil {R : L2.St → Hp → Prop} (q : R σ H) : gNil [] σ H R := ⟨rfl, q⟩
theorem r_gcons {g : TG} {g' : TGs} {R : L2.St → Hp → Prop} (q : g v σ H fun σ' H' => g' vs σ' H' R) : gCons g g' (v :: vs) σ H R := ⟨v, vs, rfl, q⟩
/-! expressions -/
theorem r_var {n : Nat} (h : σ[n]? = some (some v)) (q : Q v H) : tVar n σ H Q := ⟨v, h, q⟩
theorem r_c (q : Q v H) : tC v σ H Q := q
theorem r_op (h : ta σ H fun x H1 => tb σ H1 fun y H2 => r x y H2 Q) : tOp r ta tb σ H Q := h
theorem r_un {r : V → Hp → VK → Prop} (h : ta σ H fun x H1 => r x H1 Q) : tUn r ta σ H Q := h
theorem r_rI0 {g : Int → Int → V} (q : Q (g i j) H) : rI0 g (.int i) (.int j) H Q := ⟨i, j, rfl, rfl, q⟩
theorem r_rI {Cc : Int → Int → Prop} {g : Int → Int → V} (hc : Cc i j) (q : Q (g i j) H) : rI Cc g (.int i) (.int j) H Q := ⟨i, j, rfl, rfl, hc, q⟩
theorem r_rU {g : Int → V} (q : Q (g i) H) : rU g (.int i) H Q := ⟨i, rfl, q⟩
theorem r_eqI (q : Q (.bl (decide (i = j))) H) : rEq (.int i) (.int j) H Q := ⟨rfl, by
  have e : decide (V.int i = V.int j) = decide (i = j) := by rw [Bool.eq_iff_iff]; simp
  rw [e]; exact q⟩
theorem r_neI (q : Q (.bl (!decide (i = j))) H) : rNe (.int i) (.int j) H Q := ⟨rfl, by
  have e : decide (V.int i = V.int j) = decide (i = j) := by rw [Bool.eq_iff_iff]; simp
  rw [e]; exact q⟩
theorem r_eqS {m n : Str} (q : Q (.bl (decide (m = n))) H) : rEq (.str m) (.str n) H Q := ⟨rfl, by
  have e : decide (V.str m = V.str n) = decide (m = n) := by rw [Bool.eq_iff_iff]; simp
  rw [e]; exact q⟩
theorem r_neS {m n : Str} (q : Q (.bl (!decide (m = n))) H) : rNe (.str m) (.str n) H Q := ⟨rfl, by
  have e : decide (V.str m = V.str n) = decide (m = n) := by rw [Bool.eq_iff_iff]; simp
  rw [e]; exact q⟩
theorem r_test {t : TE} {R : Bool → Hp → Prop} (h : t σ H fun x H' => ∃ k, x = .bl k ∧ R k H') : tTest t σ H R := h
theorem r_B {t : TE} {R : Bool → Hp → Prop} (h : t σ H fun x H' => ∃ k, x = .bl k ∧ R k H') : tB t σ H R := h
theorem r_bl {R : Bool → Prop} (q : R b) : ∃ k, V.bl b = .bl k ∧ R k := ⟨b, rfl, q⟩
theorem r_and {R : Bool → Hp → Prop} (h : t σ H fun c H1 => if c = true then u σ H1 R else R false H1) : tAnd t u σ H R := h
theorem r_or {R : Bool → Hp → Prop} (h : t σ H fun c H1 => if c = true then R true H1 else u σ H1 R) : tOr t u σ H R := h
theorem r_not {R : Bool → Hp → Prop} (h : t σ H fun c H1 => R (!c) H1) : tNot t σ H R := h
theorem r_andV (h : ta σ H fun x H1 => ∃ c, x = .bl c ∧ if c = true then tb σ H1 Q else Q (.bl false) H1) : tAndV ta tb σ H Q := h
theorem r_orV (h : ta σ H fun x H1 => ∃ c, x = .bl c ∧ if c = true then Q (.bl true) H1 else tb σ H1 Q) : tOrV ta tb σ H Q := h
theorem r_notV (h : ta σ H fun x H1 => ∃ c, x = .bl c ∧ Q (.bl (!c)) H1) : tNotV ta σ H Q := h
theorem r_ifE (h : t σ H fun c H1 => if c = true then ta σ H1 Q else tb σ H1 Q) : tIf t ta tb σ H Q := h
theorem r_chain (h : ta σ H fun x H1 => tb σ H1 fun y H2 => r x y H2 fun z H3 => ∃ k, z = .bl k ∧ if k = true then tc σ H3 (fun w H4 => r' y w H4 Q) else Q (.bl false) H3) : tChain r r' ta tb tc σ H Q := h
theorem r_ixL (hp : SqL K H p xs) (e : atI xs i = some v) (q : Q v H) : rIxL K (.ref p) (.int i) H Q := ⟨p, xs, i, v, rfl, rfl, hp, e, q⟩
theorem r_ixT (hp : SqT K H p xs) (e : atI xs i = some v) (q : Q v H) : rIxT K (.ref p) (.int i) H Q := ⟨p, xs, i, v, rfl, rfl, hp, e, q⟩
theorem r_cb {rr : List V → Hp → VK → Prop} (h : A σ H fun vs H1 => rr vs H1 Q) : tCB rr A σ H Q := h
theorem r_nil {R : List V → Hp → Prop} (q : R [] H) : tNil σ H R := q
theorem r_cons {R : List V → Hp → Prop} (h : ta σ H fun x H1 => A σ H1 fun xs H2 => R (x :: xs) H2) : tCons ta A σ H R := h
theorem r_tup (h : A σ H fun xs H1 => xs.length ≤ sizeLine ∧ ∀ p, H1 p = none → Q (.ref p) (upd H1 p (.tup xs))) : tTup A σ H Q := h
theorem r_lst (h : A σ H fun xs H1 => xs.length ≤ sizeLine ∧ ∀ p, H1 p = none → Q (.ref p) (upd H1 p (.lst xs))) : tLst A σ H Q := h
def rLen (K : PySem.W.Frag) : List V → Hp → VK → Prop := fun xs H Q => ∃ p ys, xs = [.ref p] ∧ (SqL K H p ys ∨ SqT K H p ys) ∧ Q (.int ys.length) H
theorem r_cbLen (h : A σ H fun vs H1 => rLen K vs H1 Q) : tCB (fun xs H Q => ∃ p ys, xs = [V.ref p] ∧ (SqL K H p ys ∨ SqT K H p ys) ∧ Q (V.int ys.length) H) A σ H Q := h
theorem r_len (hq : SqL K H p ys ∨ SqT K H p ys) (q : Q (.int ys.length) H) : rLen K [.ref p] H Q := ⟨p, ys, rfl, hq, q⟩
def rInt1 : List V → Hp → VK → Prop := fun xs H Q => (∃ i, xs = [.int i] ∧ Q (.int i) H) ∨ ∃ k, xs = [.bl k] ∧ Q (.int (if k then 1 else 0)) H
theorem r_cbInt (h : A σ H fun vs H1 => rInt1 vs H1 Q) : tCB (fun xs H Q => (∃ i, xs = [V.int i] ∧ Q (V.int i) H) ∨ ∃ k, xs = [V.bl k] ∧ Q (V.int (if k then 1 else 0)) H) A σ H Q := h
theorem r_int1 (q : Q (.int i) H) : rInt1 [.int i] H Q := .inl ⟨i, rfl, q⟩
theorem r_intB (q : Q (.int (if b then 1 else 0)) H) : rInt1 [.bl b] H Q := .inr ⟨b, rfl, q⟩
def rListOf (K : PySem.W.Frag) : List V → Hp → VK → Prop := fun xs H Q => ∃ p ys, xs = [.ref p] ∧ (SqL K H p ys ∨ SqT K H p ys) ∧ ∀ l, H l = none → Q (.ref l) (upd H l (.lst ys))
theorem r_cbList (h : A σ H fun vs H1 => rListOf K vs H1 Q) : tCB (fun xs H Q => ∃ p ys, xs = [V.ref p] ∧ (SqL K H p ys ∨ SqT K H p ys) ∧ ∀ l, H l = none → Q (.ref l) (upd H l (.lst ys))) A σ H Q := h
theorem r_listOf (hq : SqL K H p ys ∨ SqT K H p ys) (q : ∀ l, H l = none → Q (.ref l) (upd H l (.lst ys))) : rListOf K [.ref p] H Q := ⟨p, ys, rfl, hq, q⟩
def rTupOf (K : PySem.W.Frag) : List V → Hp → VK → Prop := fun xs H Q => ∃ p ys, xs = [.ref p] ∧ ((SqL K H p ys ∧ ∀ l, H l = none → Q (.ref l) (upd H l (.tup ys))) ∨ (SqT K H p ys ∧ Q (.ref p) H))
theorem r_cbTup (h : A σ H fun vs H1 => rTupOf K vs H1 Q) : tCB (fun xs H Q => ∃ p ys, xs = [V.ref p] ∧ ((SqL K H p ys ∧ ∀ l, H l = none → Q (.ref l) (upd H l (.tup ys))) ∨ (SqT K H p ys ∧ Q (.ref p) H))) A σ H Q := h
theorem r_tupOfL (hq : SqL K H p ys) (q : ∀ l, H l = none → Q (.ref l) (upd H l (.tup ys))) : rTupOf K [.ref p] H Q := ⟨p, ys, rfl, .inl ⟨hq, q⟩⟩
theorem r_tupOfT (hq : SqT K H p ys) (q : Q (.ref p) H) : rTupOf K [.ref p] H Q := ⟨p, ys, rfl, .inr ⟨hq, q⟩⟩
theorem r_tupAny (hl : H p = some (.lst ys) ∨ H p = some (.tup ys)) (q : ∀ l H1, (∀ b o, H b = some o → H1 b = some o) → H1 l = some (.tup ys) → Q (.ref l) H1) : rTupOf K [.ref p] H Q := by
  rcases hl with h | h
  · exact r_tupOfL (SqL.of h) fun l hn => q l _ (fun b o e => by rw [upd_ne (ne_of_none e hn)]; exact e) upd_same
  · exact r_tupOfT (SqT.of h) (q p H (fun _ _ e => e) h)
theorem at_ints {ns : List Int} {z : Int} (h0 : 0 ≤ z) (h1 : z < (ns.map V.int).length) : atI (ns.map V.int) z = some (V.int (ns.getD z.toNat 0)) := by
  rw [List.length_map] at h1
  have e : z = ((z.toNat : Nat) : Int) := by omega
  have h : z.toNat < ns.length := by omega
  rw [e]
  refine atI_nat ?_
  rw [List.getElem?_map, List.getElem?_eq_getElem h, Int.toNat_natCast, List.getD_eq_getElem?_getD, List.getElem?_eq_getElem h]; rfl
def isIntV : V → Bool
  | .int _ => true
  | _ => false
theorem all_get {n : Nat} (h : xs.all isIntV = true) (e : xs[n]? = some v) : ∃ z : Int, v = .int z := by
  have hb := List.all_eq_true.mp h _ (List.mem_of_getElem? e)
  cases v with
  | int z => exact ⟨z, rfl⟩
  | _ => exact absurd hb (by simp [isIntV])
theorem all_rg {a b : Int} : (rgV a b).all isIntV = true := by
  unfold rgV
  rw [List.all_map]
  exact List.all_eq_true.mpr fun _ _ => rfl
theorem r_ixMenu (h : H p = some (.lst xs)) (hall : xs.all isIntV = true) (h0 : 0 ≤ i) (h1 : i < xs.length) (q : ∀ z : Int, V.int z ∈ xs → Q (.int z) H) : rIxL K (.ref p) (.int i) H Q := by
  have hlt : i.toNat < xs.length := by omega
  have hm := List.getElem_mem hlt
  have hb := List.all_eq_true.mp hall _ hm
  have e : i = ((i.toNat : Nat) : Int) := by omega
  cases hx : xs[i.toNat] with
  | int z => exact r_ixL (SqL.of h) (by rw [e]; exact atI_nat (by rw [List.getElem?_eq_getElem (by simpa using hlt)]; simpa using hx)) (q z (hx ▸ hm))
  | _ => rw [hx] at hb; exact absurd hb (by simp [isIntV])
/-! branches -/
theorem r_ite {cc : Prop} [Decidable cc] {X Y : Prop} (h1 : cc → X) (h2 : ¬ cc → Y) : if decide cc = true then X else Y := by
  by_cases h : cc
  · rw [decide_eq_true h]; exact iteT (h1 h)
  · rw [decide_eq_false h]; exact iteF (h2 h)
theorem r_iteN {cc : Prop} [Decidable cc] {X Y : Prop} (h1 : ¬ cc → X) (h2 : cc → Y) : if (!decide cc) = true then X else Y := by
  by_cases h : cc
  · rw [decide_eq_true h]; exact iteF (h2 h)
  · rw [decide_eq_false h]; exact iteT (h1 h)
theorem r_yes {cc : Prop} [Decidable cc] {X Y : Prop} (h : cc) (h1 : X) : if decide cc = true then X else Y := by rw [decide_eq_true h]; exact iteT h1
theorem r_no {cc : Prop} [Decidable cc] {X Y : Prop} (h : ¬ cc) (h1 : Y) : if decide cc = true then X else Y := by rw [decide_eq_false h]; exact iteF h1
theorem r_yesN {cc : Prop} [Decidable cc] {X Y : Prop} (h : ¬ cc) (h1 : X) : if (!decide cc) = true then X else Y := by rw [decide_eq_false h]; exact iteT h1
theorem r_noN {cc : Prop} [Decidable cc] {X Y : Prop} (h : cc) (h1 : Y) : if (!decide cc) = true then X else Y := by rw [decide_eq_true h]; exact iteF h1
theorem r_iteNF {X Y : Prop} (h1 : X) : if (!false) = true then X else Y := iteT h1
theorem r_iteNT {X Y : Prop} (h1 : Y) : if (!true) = true then X else Y := iteF h1
def rFld (K : PySem.W.Frag) (f : Str) : V → Hp → VK → Prop := fun x H1 Q => ∃ a C dx fs v, x = .ref a ∧ H1 a = some (.ins C dx fs) ∧ Cls K C ∧ NoAttr K C f ∧ fs.lookup f = some v ∧ Q v H1
theorem r_tfld {f : Str} (h : ta σ H fun x H1 => rFld K f x H1 Q) : tFld K ta f σ H Q := h
theorem r_fld {f : Str} {fs : List (Str × V)} (e : H a = some (.ins C dx fs)) (c : Cls K C) (n : NoAttr K C f) (l : fs.lookup f = some v) (q : Q v H) : rFld K f (.ref a) H Q := ⟨a, C, dx, fs, v, rfl, e, c, n, l, q⟩
def rSFld (K : PySem.W.Frag) (f : Str) (y : V) : V → Hp → (Hp → Prop) → Prop := fun x H2 R => ∃ a C dx fs, x = .ref a ∧ H2 a = some (.ins C dx fs) ∧ Cls K C ∧ NoAttr K C f ∧ fs.length < 1000 ∧ R (upd H2 a (.ins C dx (putF f y fs)))
theorem r_sfld {f : Str} {tv : TE} (h : tv σ H fun y H1 => ta σ H1 fun x H2 => rSFld K f y x H2 (D.nx σ)) : sFld K ta tv f D σ H := h
theorem r_sf {f : Str} {fs gs : List (Str × V)} {R : Hp → Prop} (e : H a = some (.ins C dx fs)) (c : Cls K C) (n : NoAttr K C f) (l : fs.length < 1000) (g : putF f y fs = gs) (q : R (upd H a (.ins C dx gs))) : rSFld K f y (.ref a) H R := ⟨a, C, dx, fs, rfl, e, c, n, l, by rw [g]; exact q⟩
def rCV (K : PySem.W.Frag) (f : Str) : V → Hp → VK → Prop := fun x H1 Q => ∃ C mc v u, x = .ref C ∧ ClX.CRead K C mc ∧ ClX.CVal K C mc f v u ∧ Q v H1
theorem r_tcval {f : Str} (h : ta σ H fun x H1 => rCV K f x H1 Q) : ClX.tCVal K ta f σ H Q := h
theorem r_cv {f : Str} {mc : Value} {u : Value} (r : ClX.CRead K C mc) (k : ClX.CVal K C mc f v u) (q : Q v H) : rCV K f (.ref C) H Q := ⟨C, mc, v, u, rfl, r, k, q⟩
theorem r_forT {n : Nat} {g : TG} {tb : TS} (ha : σ[n]? = some (some (.ref a))) (hS : SqT K H a xs) (Pv : Nat → L2.St → Hp → Prop) (h0 : Pv 0 σ H) (hl : ∀ i σ H, i ≤ xs.length → Pv i σ H → SqT K H a xs)
    (hs : ∀ i x σ H, xs[i]? = some x → Pv i σ H → g x σ H fun σ2 H2 => tb { D with nx := Pv (i + 1), ct := Pv (i + 1), bk := D.nx } σ2 H2) (hd : ∀ σ H, Pv xs.length σ H → D.nx σ H) : tFor (iTup K (tVar n)) g tb D σ H :=
  ⟨_, ha, a, rfl, ⟨_, hS⟩, for_tup Pv h0 hl hs hd⟩
theorem r_isiII (q : Q (.bl true) H) : rIsi K [.int i, .ty "int"] H Q := ⟨_, _, _, _, true, rfl, .ty _, .base (.int _), kit_ty (by decide +kernel), q⟩
theorem r_isiIB (q : Q (.bl false) H) : rIsi K [.int i, .ty "bool"] H Q := ⟨_, _, _, _, false, rfl, .ty _, .base (.int _), kit_ty (by decide +kernel), q⟩
theorem r_isiTT (h : H a = some (.tup xs)) (q : Q (.bl true) H) : rIsi K [.ref a, .ty "tuple"] H Q := ⟨_, _, _, _, true, rfl, .ty _, .base (.tup h), kit_ty (by decide +kernel), q⟩
theorem upd_at {q : Addr} {o u : HO} (h : q ≠ p) (e : H q = some u) : upd H p o q = some u := by rw [upd_ne h]; exact e
/-! tuples and lists of ints compared -/
theorem dp_ints : ∀ ns : List Int, DpAll K H (ns.map V.int) (ns.map PyData.int)
  | [] => .nil
  | n :: r => .cons (.int n) (dp_ints r)
theorem eqv_ints : ∀ ns ms : List Int, PyData.eqvAll (ns.map PyData.int) (ms.map PyData.int) = decide (ns = ms)
  | [], [] => rfl
  | [], _ :: _ => rfl
  | _ :: _, [] => rfl
  | n :: r, m :: q => by
    show (PyData.eqv (.int n) (.int m) && PyData.eqvAll (r.map PyData.int) (q.map PyData.int)) = _
    rw [eqv_ints r q]
    show ((n == m) && decide (r = q)) = _
    rw [Bool.eq_iff_iff]; simp
theorem can_ints : ∀ ns : List Int, PyData.canLayAll0 (ns.map PyData.int) = true
  | [] => rfl
  | _ :: r => can_ints r
theorem depth_ints : ∀ ns : List Int, PyData.depthAll (ns.map PyData.int) = 0
  | [] => rfl
  | _ :: r => by show max 0 (PyData.depthAll (r.map PyData.int)) = 0; rw [depth_ints r]; rfl
theorem shaped_ints (ns : List Int) : SeqAt.shaped (.tuple (ns.map PyData.int)) = true := by
  show (PyData.canLayAll0 (ns.map PyData.int) && decide (PyData.depthAll (ns.map PyData.int) + 1 ≤ 64)) = true
  rw [can_ints, depth_ints]; rfl
theorem shaped_intsL (ns : List Int) : SeqAt.shaped (.list (ns.map PyData.int)) = true := by
  show (PyData.canLayAll0 (ns.map PyData.int) && decide (PyData.depthAll (ns.map PyData.int) + 1 ≤ 64)) = true
  rw [can_ints, depth_ints]; rfl
theorem r_eqTT {q : Addr} {ns ms : List Int} (h1 : SqT K H p (ns.map V.int)) (h2 : SqT K H q (ms.map V.int)) (z : Q (.bl (decide (ns = ms))) H) : rEqD K (.ref p) (.ref q) H Q :=
  ⟨_, _, .tup h1 (dp_ints ns), .tup h2 (dp_ints ms), shaped_ints ns, shaped_ints ms, by show Q (.bl (PyData.eqvAll _ _)) H; rw [eqv_ints]; exact z⟩
theorem r_neTT {q : Addr} {ns ms : List Int} (h1 : SqT K H p (ns.map V.int)) (h2 : SqT K H q (ms.map V.int)) (z : Q (.bl (!decide (ns = ms))) H) : rNeD K (.ref p) (.ref q) H Q :=
  ⟨_, _, .tup h1 (dp_ints ns), .tup h2 (dp_ints ms), shaped_ints ns, shaped_ints ms, by show Q (.bl (!PyData.eqvAll _ _)) H; rw [eqv_ints]; exact z⟩
theorem r_eqLL {q : Addr} {ns ms : List Int} (h1 : SqL K H p (ns.map V.int)) (h2 : SqL K H q (ms.map V.int)) (z : Q (.bl (decide (ns = ms))) H) : rEqD K (.ref p) (.ref q) H Q :=
  ⟨_, _, .lst h1 (dp_ints ns), .lst h2 (dp_ints ms), shaped_intsL ns, shaped_intsL ms, by show Q (.bl (PyData.eqvAll _ _)) H; rw [eqv_ints]; exact z⟩
theorem r_neLL {q : Addr} {ns ms : List Int} (h1 : SqL K H p (ns.map V.int)) (h2 : SqL K H q (ms.map V.int)) (z : Q (.bl (!decide (ns = ms))) H) : rNeD K (.ref p) (.ref q) H Q :=
  ⟨_, _, .lst h1 (dp_ints ns), .lst h2 (dp_ints ms), shaped_intsL ns, shaped_intsL ms, by show Q (.bl (!PyData.eqvAll _ _)) H; rw [eqv_ints]; exact z⟩
theorem r_neNil {q : Addr} (h1 : SqL K H p []) (h2 : SqL K H q []) (z : Q (.bl false) H) : rNeD K (.ref p) (.ref q) H Q := r_neLL (ns := []) (ms := []) h1 h2 (by simpa using z)
theorem r_eqNil {q : Addr} (h1 : SqL K H p []) (h2 : SqL K H q []) (z : Q (.bl true) H) : rEqD K (.ref p) (.ref q) H Q := r_eqLL (ns := []) (ms := []) h1 h2 (by simpa using z)
/-! slices of tuples of ints, sums of them -/
theorem r_tsl {r : V → Option Int → Option Int → Hp → VK → Prop} {tl th : TO} (h : te σ H fun x H1 => tl σ H1 fun l H2 => th σ H2 fun w H3 => r x l w H3 Q) : tSl r te tl th σ H Q := h
theorem r_noPart {R : Option Int → Hp → Prop} (q : R none H) : tNoPart σ H R := q
def rPart : V → Hp → (Option Int → Hp → Prop) → Prop := fun x H1 R => ∃ i, x = .int i ∧ R (some i) H1
theorem r_tpart {R : Option Int → Hp → Prop} (h : ta σ H fun x H1 => rPart x H1 R) : tPart ta σ H R := h
theorem r_part {R : Option Int → Hp → Prop} (q : R (some i) H) : rPart (.int i) H R := ⟨i, rfl, q⟩
theorem r_slAny {lo hi : Option Int} (h : H a = some (.tup xs)) (q : ∀ p H', (∀ b o, H b = some o → H' b = some o) → H' p = some (.tup (cutV xs lo hi)) → Q (.ref p) H') : rSlA K (.ref a) lo hi H Q :=
  ⟨a, xs, rfl, SqT.of h, fun e => q a H (fun _ _ e => e) (by
    rw [h]
    unfold cutV
    rw [e.1, e.2, List.drop_zero, Nat.sub_zero, List.take_length]), fun _ p hp => q p _ (fun b o e => by rw [upd_ne (ne_of_none e hp)]; exact e) upd_same⟩
theorem cut_take {ns : List Int} {j : Nat} (h : j ≤ ns.length) : cutV (ns.map V.int) none (some (j : Int)) = (ns.take j).map V.int := by
  unfold cutV
  rw [HT.sIx_none, HT.sIx_nat, List.drop_zero, Nat.sub_zero, List.length_map, Nat.min_eq_left h, List.map_take]
theorem cut_drop {ns : List Int} {j : Nat} (h : j ≤ ns.length) : cutV (ns.map V.int) (some (j : Int)) none = (ns.drop j).map V.int := by
  unfold cutV
  rw [HT.sIx_none, HT.sIx_nat, List.length_map, Nat.min_eq_left h, List.map_drop]
  exact List.take_of_length_le (by simp)
theorem r_catI {b : Addr} {ns ms : List Int} (h1 : H a = some (.tup (ns.map V.int))) (h2 : H b = some (.tup (ms.map V.int))) (hz : ns.length + ms.length ≤ 1000)
    (q : ∀ p H', (∀ b o, H b = some o → H' b = some o) → H' p = some (.tup ((ns ++ ms).map V.int)) → Q (.ref p) H') : rCatA K (.ref a) (.ref b) H Q := by
  refine ⟨a, b, _, _, rfl, rfl, SqT.of h1, SqT.of h2, by rw [List.length_map, List.length_map]; exact Nat.le_trans hz (by decide), fun e => ?_, fun _ e => ?_, fun _ _ p hp => ?_⟩
  · have e' : ns = [] := List.map_eq_nil_iff.mp e
    subst e'
    exact q b H (fun _ _ e => e) h2
  · have e' : ms = [] := List.map_eq_nil_iff.mp e
    subst e'
    exact q a H (fun _ _ e => e) (by rw [List.append_nil]; exact h1)
  · refine q p _ (fun c o e => by rw [upd_ne (ne_of_none e hp)]; exact e) ?_
    rw [upd_same, List.map_append]
/-! stores at open places, lists joined, loops over what an expression gives -/
theorem r_setI {ns : List Int} {w : Int} {R : Hp → Prop} (hp : H p = some (.lst (ns.map V.int))) (h0 : 0 ≤ i) (h1 : i < ns.length) (q : R (upd H p (.lst ((ns.set i.toNat w).map V.int)))) : rSetL (.ref p) (.int i) (.int w) H R :=
  ⟨p, _, i, i.toNat, rfl, rfl, hp, by
    have e : i = Int.ofNat i.toNat := by show i = ((i.toNat : Nat) : Int); omega
    rw [List.length_map]
    conv => lhs; rw [e]
    exact ixN_nat (by omega), by rw [← List.map_set]; exact q⟩
theorem r_cat {b : Addr} (h1 : H a = some (.lst xs)) (h2 : H b = some (.lst ys)) (hz : xs.length + ys.length ≤ 1000) (q : ∀ p, H p = none → Q (.ref p) (upd H p (.lst (xs ++ ys)))) : rCat (.ref a) (.ref b) H Q :=
  ⟨a, b, xs, ys, rfl, rfl, h1, h2, Nat.le_trans hz (by decide), q⟩
def rLstRg : V → Hp → VK → Prop := fun x H1 Q => ∃ n, x = .int n ∧ RgOk 0 n ∧ ∀ q, H1 q = none → Q (.ref q) (upd H1 q (.lst (rgV 0 n)))
theorem r_tlstRg (h : ta σ H fun x H1 => rLstRg x H1 Q) : tLstRg (tRg1 ta) σ H Q := h
theorem r_lstRg (h0 : 0 ≤ i) (h1 : i ≤ 1000) (q : ∀ l, H l = none → Q (.ref l) (upd H l (.lst (rgV 0 i)))) : rLstRg (.int i) H Q := ⟨i, rfl, RgOk.of_le (by omega) (by omega) (by omega) (by omega), q⟩
theorem rg_int {n : Int} {j : Nat} {x : V} (h : (rgV 0 n)[j]? = some x) : ∃ z : Int, x = V.int z := by
  unfold rgV at h
  rw [List.getElem?_map] at h
  cases e : (List.range (n - 0).toNat)[j]? with
  | none => rw [e] at h; cases h
  | some k => rw [e] at h; exact ⟨_, (Option.some.inj h).symm⟩
def rForT (K : PySem.W.Frag) (g : TG) (tb : TS) (D : Ends) (σ : L2.St) : V → Hp → Prop := fun x H1 => ∃ a, x = .ref a ∧ (∃ xs, SqT K H1 a xs) ∧ ∃ W : Nat → Nat → L2.St → Hp → Prop, (∃ m, W 0 m σ H1) ∧ ∀ i m σ H, W i m σ H →
      ((Itt K a).stop i H ∧ D.nx σ H) ∨ ((Itt K a).go i H ∧ ∃ N : L2.St → Hp → Prop, (∀ σ' H', N σ' H' → ∃ m', m' < m ∧ W (i + 1) m' σ' H') ∧ ∀ x H', (Itt K a).yld i H x H' → g x σ H' fun σ2 H2 => tb { D with nx := N, ct := N, bk := D.nx } σ2 H2)
theorem r_forTe {g : TG} {tb : TS} (h : te σ H fun x H1 => rForT K g tb D σ x H1) : tFor (iTup K te) g tb D σ H := h
theorem r_forTx {g : TG} {tb : TS} (hS : SqT K H a xs) (Pv : Nat → L2.St → Hp → Prop) (h0 : Pv 0 σ H) (hl : ∀ i σ H, i ≤ xs.length → Pv i σ H → SqT K H a xs)
    (hs : ∀ i x σ H, xs[i]? = some x → Pv i σ H → g x σ H fun σ2 H2 => tb { D with nx := Pv (i + 1), ct := Pv (i + 1), bk := D.nx } σ2 H2) (hd : ∀ σ H, Pv xs.length σ H → D.nx σ H) : rForT K g tb D σ (.ref a) H :=
  ⟨a, rfl, ⟨_, hS⟩, for_tup Pv h0 hl hs hd⟩
def rForL (K : PySem.W.Frag) (g : TG) (tb : TS) (D : Ends) (σ : L2.St) : V → Hp → Prop := fun x H1 => ∃ a, x = .ref a ∧ (∃ xs, SqL K H1 a xs) ∧ ∃ W : Nat → Nat → L2.St → Hp → Prop, (∃ m, W 0 m σ H1) ∧ ∀ i m σ H, W i m σ H →
      ((Itl K a).stop i H ∧ D.nx σ H) ∨ ((Itl K a).go i H ∧ ∃ N : L2.St → Hp → Prop, (∀ σ' H', N σ' H' → ∃ m', m' < m ∧ W (i + 1) m' σ' H') ∧ ∀ x H', (Itl K a).yld i H x H' → g x σ H' fun σ2 H2 => tb { D with nx := N, ct := N, bk := D.nx } σ2 H2)
theorem r_forLe {g : TG} {tb : TS} (h : te σ H fun x H1 => rForL K g tb D σ x H1) : tFor (iList K te) g tb D σ H := h
theorem r_forLx {g : TG} {tb : TS} (hS : SqL K H a xs) (Pv : Nat → L2.St → Hp → Prop) (h0 : Pv 0 σ H) (hl : ∀ i σ H, i ≤ xs.length → Pv i σ H → SqL K H a xs)
    (hs : ∀ i x σ H, xs[i]? = some x → Pv i σ H → g x σ H fun σ2 H2 => tb { D with nx := Pv (i + 1), ct := Pv (i + 1), bk := D.nx } σ2 H2) (hd : ∀ σ H, Pv xs.length σ H → D.nx σ H) : rForL K g tb D σ (.ref a) H :=
  ⟨a, rfl, ⟨_, hS⟩, for_list Pv h0 hl hs hd⟩
theorem r_tyes {R : Bool → Hp → Prop} (q : R true H) : tYes σ H R := q
theorem r_iteB {X Y : Prop} (h1 : b = true → X) (h2 : b = false → Y) : if b = true then X else Y := by
  cases b
  · exact iteF (h2 rfl)
  · exact iteT (h1 rfl)
/-! calls -/
theorem r_tcall {sp : Sp} {dvs : List V} {E : XK} (h : A σ H fun vs H1 => sp (vs ++ dvs) H1 Q E) : tCall sp dvs E A σ H Q := h
theorem r_tcallS {sp : Sp} {E : L2.St → XK} (h : A σ H fun vs H1 => sp vs H1 Q (E σ)) : tCallS sp E A σ H Q := h
def rMake (C : Addr) (sp : Sp) (dvs : List V) (E : XK) : List V → Hp → VK → Prop := fun vs H1 Q => ∀ x dx, H1 x = none → H1 dx = none → dx ≠ x →
  sp (.ref x :: (vs ++ dvs)) (upd (upd H1 dx (.own x)) x (.ins C dx [])) (fun v H2 => v = .non ∧ Q (.ref x) H2) E
theorem r_tmake {sp : Sp} {dvs : List V} {E : XK} (h : A σ H fun vs H1 => rMake C sp dvs E vs H1 Q) : tMake C sp dvs E A σ H Q := h
/-! a list's append -/
def rBM (K : PySem.W.Frag) (T : String) (r : V → List V → Hp → VK → Prop) (A : TA) (σ : L2.St) : V → Hp → VK → Prop := fun x H1 Q => tyV K T x H1 ∧ A σ H1 fun xs H2 => r x xs H2 Q
theorem r_tbm {T : String} {r : V → List V → Hp → VK → Prop} (h : ta σ H fun x H1 => rBM K T r A σ x H1 Q) : tBM K T r ta A σ H Q := h
theorem r_bmL {r : V → List V → Hp → VK → Prop} (h : H a = some (.lst xs)) (q : A σ H fun ys H2 => r (.ref a) ys H2 Q) : rBM K "list" r A σ (.ref a) H Q := ⟨Or.inl ⟨rfl, _, SqL.of h⟩, q⟩
theorem r_app (h : H a = some (.lst xs)) (z : xs.length ≤ 1000) (q : Q .non (upd H a (.lst (xs ++ [y])))) : rAppend (.ref a) [y] H Q := ⟨a, xs, y, rfl, rfl, h, Nat.lt_of_le_of_lt z (by decide), q⟩
theorem map_app (xs : List Int) (y : Int) : xs.map V.int ++ [V.int y] = (xs ++ [y]).map V.int := by simp
theorem ne_new {b : Addr} {o : HO} (h' : H b = none) (h : H a = some o) : a ≠ b := ne_of_none h h'
theorem r_new {R : Addr → Hp → Prop} {o : HO} (z : xs.length ≤ 1000) (q : ∀ l, H l = none → R l (upd H l o)) : xs.length ≤ sizeLine ∧ ∀ l, H l = none → R l (upd H l o) := ⟨Nat.le_trans z (by decide), q⟩
theorem upd_new {q l : Addr} {o u : HO} (hl : H l = none) (e : H q = some u) : upd H l o q = some u := by rw [upd_ne (ne_of_none e hl)]; exact e
theorem keep_at {H' : Hp} {l : Addr} {o : HO} (hk : ∀ b, b ≠ p → H' b = H b) (ne : l ≠ p) (h : H l = some o) : H' l = some o := (hk l ne).trans h
theorem keep_ext {H' : Hp} {l : Addr} {o : HO} (hk : ∀ b o, b ≠ p → H b = some o → H' b = some o) (ne : l ≠ p) (h : H l = some o) : H' l = some o := hk l o ne h
theorem keep_all {H' : Hp} {l : Addr} {o : HO} (hk : ∀ b o, H b = some o → H' b = some o) (h : H l = some o) : H' l = some o := hk l o h
end
end RD


namespace OWN
open PySem PySem.W PySem.Calls PyProof.Rows Builtin
open Sem (wp)
theorem mul_ref (a : Int) (t : Tok) (x C dx : Addr) :
    Meets (Builtin.«int.__mul__» ⟨[.int a t, .ref x], []⟩) (fun _ R s => s.heap.get? x = some (instObj C dx) ∧ R (.ok (.ret Value.notImplemented)) s) :=
  .of_wp fun prog w A R s h => by obtain ⟨hp, g, d, tk, os⟩ := s; obtain ⟨hl, h⟩ := h; unfold instObj at hl; wp_walk; exact ⟨_, rfl, h⟩
section
variable {prog : Program} {w : World} {A : Around} {E : Value → Shared → Prop} {s : Shared} {K : Frag} {x C L f f' : Addr} {h₀ : Heap} {m : Str → Option Value} {ox : Obj} {od : Option Obj}
theorem looks_called {M : Model} {h : Heap} {t : Value} {name : Str} {g : Addr} : Looks M h (calledByName t name (some (.ref g))) true := .now
theorem looks_num {M : Model} {h : Heap} {nm : String} (X : K.In h) (hs : findIn K (.ref C) (PySem.dunder nm) = some (some (.ref f))) (hr : findIn K (.ref C) (PySem.dunderR nm) = some (some (.ref f'))) : Looks M h (numberSlotInPython (.ref C) nm) true := by
  unfold numberSlotInPython
  refine (looks_findIn X hs).andThen (looks_called.andThen ((looks_findIn X hr).andThen (looks_called.andThen ?_)))
  exact .now
/-- x * i, x an own instance with __mul__ and __rmul__, i an int -/
theorem mul_left {i : Int} {t : Tok} {Q : Value → Shared → Prop} (F0 : PyProof.Rows.Fr h₀ L s.heap m) (X₀ : K.In h₀) (I : InstAt s.heap x ox C od) (hc : selfFirst K C = true)
    (hs : findIn K (.ref C) (PySem.dunder "mul") = some (some (.ref f))) (hr : findIn K (.ref C) (PySem.dunderR "mul") = some (some (.ref f'))) (hf : isFn K (.ref f) = true) (hsub : subIn K (.type "int") (.ref C) = some false)
    (h : wpAny (model prog w) A (call (.ref f) [.ref x, .int i t]) (PySem.W.CmpBack Q) E s) : wpAny (model prog w) A (binaryOp1 "mul" (.ref x) (.int i t)) (fun r s' => ∃ v, r = some v ∧ Q v s') E s := by
  have X := X₀.keeps F0.keep
  obtain ⟨cd, hcd, hm⟩ := any_some hc
  obtain ⟨rest, hm⟩ : ∃ rest, cd.mro = .ref C :: rest := by
    cases q : cd.mro with
    | nil => rw [q] at hm; cases hm
    | cons a r => rw [q] at hm; exact ⟨r, by rw [List.head?_cons] at hm; cases (beq_iff_eq.mp hm); rfl⟩
  unfold binaryOp1
  refine wpAny_bind (I.type.here (wpAny_bind (wpAny_typeOf (typeIs_int s i t) (wpAny_bind ((fills_K X hcd hm hs).here ?_)))))
  have hne : (Value.ref C == Value.type "int") = false := rfl
  simp only [hne, Bool.false_eq_true, if_false]
  refine wpAny_bind (wpAny_of_eq PySem.F.fills_int_mul ?_)
  simp only [Bool.and_self, if_true]
  refine wpAny_bind ((looks_subIn X hsub).here ?_)
  simp only [Bool.false_eq_true, if_false, pure_bind, Bool.not_false, Bool.and_self, if_true]
  refine wpAny_bind ((looks_num X hs hr).here ?_)
  simp only [if_true]
  refine wpAny_bind (wpAny_of_eq (show numberSlotInPython (.type "int") "mul" = pure false from rfl) ?_)
  simp only [Bool.not_false, if_true]
  refine wpAny_bind (wpAny_of_eq PySem.F.slot_int_rmul.lookup ?_)
  refine wpAny_bind (m := tryMethod (.ref x) _ _) ?_
  unfold tryMethod
  refine wpAny_bind (special_fn X I hs (beq_iff_eq.mp hf) (wpAny_mono h (fun v s' hv => ?_) fun _ _ e => e))
  cases v <;> first | exact hv.elim | exact wpAny_pure (wpAny_pure ⟨_, rfl, hv⟩)
/-- i * x -/
theorem mul_right {i : Int} {t : Tok} {dx : Addr} {Q : Value → Shared → Prop} (F0 : PyProof.Rows.Fr h₀ L s.heap m) (X₀ : K.In h₀) (I : InstAt s.heap x (instObj C dx) C od) (hc : selfFirst K C = true)
    (hs : findIn K (.ref C) (PySem.dunder "mul") = some (some (.ref f))) (hr : findIn K (.ref C) (PySem.dunderR "mul") = some (some (.ref f'))) (hf : isFn K (.ref f') = true) (hsub : subIn K (.ref C) (.type "int") = some false)
    (h : wpAny (model prog w) A (call (.ref f') [.ref x, .int i t]) (PySem.W.CmpBack Q) E s) : wpAny (model prog w) A (binaryOp1 "mul" (.int i t) (.ref x)) (fun r s' => ∃ v, r = some v ∧ Q v s') E s := by
  have X := X₀.keeps F0.keep
  obtain ⟨cd, hcd, hm⟩ := any_some hc
  obtain ⟨rest, hm⟩ : ∃ rest, cd.mro = .ref C :: rest := by
    cases q : cd.mro with
    | nil => rw [q] at hm; cases hm
    | cons a r => rw [q] at hm; exact ⟨r, by rw [List.head?_cons] at hm; cases (beq_iff_eq.mp hm); rfl⟩
  unfold binaryOp1
  refine wpAny_bind (wpAny_typeOf (typeIs_int s i t) (wpAny_bind (I.type.here (wpAny_bind (wpAny_of_eq PySem.F.fills_int_mul ?_)))))
  have hne : (Value.type "int" == Value.ref C) = false := rfl
  simp only [hne, Bool.false_eq_true, if_false]
  refine wpAny_bind ((fills_K X hcd hm hs).here ?_)
  simp only [Bool.and_self, if_true]
  refine wpAny_bind ((looks_subIn X hsub).here ?_)
  simp only [Bool.false_eq_true, if_false, pure_bind, Bool.not_false, Bool.and_self, if_true]
  refine wpAny_bind (wpAny_of_eq (show numberSlotInPython (.type "int") "mul" = pure false from rfl) ?_)
  simp only [Bool.false_eq_true, if_false, pure_bind]
  refine wpAny_bind (wpAny_tryMethod_declines (typeIs_int s i t) PySem.F.slot_int_mul (call_meets PySem.F.slot_int_mul (typeIs_int s i t) PySem.F.entry_int_mul (PySem.F.args_int_mul_2 _ _) (mul_ref i t x C dx) ⟨I.at_, rfl, ?_⟩))
  refine wpAny_bind (m := tryMethod (.ref x) _ _) ?_
  unfold tryMethod
  refine wpAny_bind (special_fn X I hr (beq_iff_eq.mp hf) (wpAny_mono h (fun v s' hv => ?_) fun _ _ e => e))
  cases v <;> first | exact hv.elim | exact wpAny_pure (wpAny_bind (wpAny_rule (wpAny_pure ⟨_, rfl, hv⟩)))
theorem binop_of {op : Operator} {a b : Value} {Q : Value → Shared → Prop} (hn : op.info.2 = "mul") (h : wpAny (model prog w) A (binaryOp1 "mul" a b) (fun r s' => ∃ v, r = some v ∧ Q v s') E s) : wpAny (model prog w) A (binaryOp op a b) Q E s := by
  unfold binaryOp
  refine wpAny_holding ?_
  rcases hi : op.info with ⟨sym, nm⟩
  rw [hi] at hn
  dsimp only at hn ⊢
  subst hn
  refine wpAny_bind (wpAny_mono h (fun r s' z => ?_) fun _ _ e => e)
  obtain ⟨v, rfl, q⟩ := z
  exact wpAny_pure q
theorem looks_inpl {M : Model} {h : Heap} {cd : ClassData} (X : K.In h) (hc : clsIn K C = some cd) (hm : cd.mro = [.ref C, .type "object"]) (hi : findIn K (.ref C) (PySem.dunderI "mul") = some none) : Looks M h (fillsInplaceSlot (.ref C) "mul" false) false := by
  intro A Q E s k q
  unfold fillsInplaceSlot
  refine wpAny_bind ((looks_clsIn X hc).andThen (f := fun cd => pure cd.mro) .now A _ E s k ?_)
  rw [hm, List.anyM_cons]
  refine wpAny_bind (wpAny_bind (looks_findIn X hi A _ E s k ?_))
  refine wpAny_pure ?_
  simp only [Bool.false_eq_true, if_false]
  rw [List.anyM_cons]
  refine wpAny_bind (wpAny_bind (wpAny_of_eq (show typeLookup (.type "object") (PySem.dunderI "mul") = pure none from ?_) ?_))
  · rw [typeLookup_type, builtinLookup_eq_fast, show fastLookup "object" (PySem.dunderI "mul") = some none from by decide +kernel]
  · refine wpAny_pure ?_
    simp only [Bool.false_eq_true, if_false]
    exact wpAny_pure q
theorem inpl_left {i : Int} {t : Tok} {Q : Value → Shared → Prop} {cd : ClassData} (F0 : PyProof.Rows.Fr h₀ L s.heap m) (X₀ : K.In h₀) (I : InstAt s.heap x ox C od) (hcd : clsIn K C = some cd) (hm : cd.mro = [.ref C, .type "object"]) (hi : findIn K (.ref C) (PySem.dunderI "mul") = some none)
    (h : wpAny (model prog w) A (binaryOp1 "mul" (.ref x) (.int i t)) (fun r s' => ∃ v, r = some v ∧ Q v s') E s) : wpAny (model prog w) A (inplaceOp .Mult (.ref x) (.int i t)) Q E s := by
  have X := X₀.keeps F0.keep
  unfold inplaceOp
  refine wpAny_holding (wpAny_bind (I.type.here ?_))
  refine wpAny_bind ((looks_inpl X hcd hm hi).here ?_)
  simp only [Bool.false_eq_true, if_false]
  refine wpAny_bind (wpAny_mono h (fun r s' z => ?_) fun _ _ e => e)
  obtain ⟨v, rfl, q⟩ := z
  exact wpAny_pure q
end
end OWN


namespace OWN
open PySem PySem.Spec PyProof.Rows L2
/-- a call that may raise, at the slots σ: what is wished of the exception is W's -/
def OpRS (X : Cx) (f : Value → Value → Sem Value) (r : L2.St → R2) : Prop :=
  ∀ (pins : List (Addr × Obj)) (s : Shared) (σ : L2.St) (H : Hp) (x y : V) (v u : Value) (Q : VK), Inv X pins σ H s → RelV x v → RelV y u → r σ x y H Q →
    wpAny (model X.prog X.w) X.A (f v u) (EP X pins σ Q) X.xe s
def tOpS (r : L2.St → R2) (ta tb : TE) : TE := fun σ H Q => ta σ H fun x H1 => tb σ H1 fun y H2 => r σ x y H2 Q
/-- x op y by the own class's def at g, x an instance of C -/
def rOwnS (C : Addr) (sp : Sp) (W : WX) : L2.St → R2 := fun σ x y H Q => ∃ a dx fs i, x = .ref a ∧ y = .int i ∧ H a = some (.ins C dx fs) ∧ sp [x, y] H Q (WE W σ)
def rOwnRS (C : Addr) (sp : Sp) (W : WX) : L2.St → R2 := fun σ x y H Q => ∃ a dx fs i, x = .int i ∧ y = .ref a ∧ H a = some (.ins C dx fs) ∧ sp [y, x] H Q (WE W σ)
def rOwnC (C : Addr) (sp : Sp) (E : XK) : R2 := fun x y H Q => ∃ a dx fs b dy gs, x = .ref a ∧ y = .ref b ∧ H a = some (.ins C dx fs) ∧ H b = some (.ins C dy gs) ∧ sp [x, y] H Q E
/-- what the text says of a class with __mul__ (at f) and __rmul__ (at f') -/
structure MulC (K : PySem.W.Frag) (C f f' : Addr) : Prop where
  sf : PySem.W.selfFirst K C = true
  mu : PySem.W.findIn K (.ref C) (PySem.dunder "mul") = some (some (.ref f))
  rm : PySem.W.findIn K (.ref C) (PySem.dunderR "mul") = some (some (.ref f'))
  fm : PySem.W.isFn K (.ref f) = true
  fr : PySem.W.isFn K (.ref f') = true
  s1 : PySem.W.subIn K (.type "int") (.ref C) = some false
  s2 : PySem.W.subIn K (.ref C) (.type "int") = some false
structure InpC (K : PySem.W.Frag) (C : Addr) : Prop where
  cd : ∃ cd, PySem.W.clsIn K C = some cd ∧ cd.mro = [.ref C, .type "object"]
  im : PySem.W.findIn K (.ref C) (PySem.dunderI "mul") = some none
section
variable {X : Cx} {a b : Expr} {ta tb : TE} {pos : Pos} {C f f' g : Addr} {n : Nat} {fd : FuncData} {ps : List Str} {sp : Sp} {W : WX} {E : XK} {CX : CXT}
theorem pe_opS {op : Operator} {r : L2.St → R2} (ho : OpRS X (binaryOp op) r) (ha : PE X a ta) (hb : PE X b tb) : PE X (.BinOp a op b pos) (tOpS r ta tb) := by
  refine ⟨fun pins s σ H Q I h => ?_⟩
  exact wpAny_BinOp (binT ha hb I h fun v u s2 x y H2 I2 rx ry q => ho pins s2 σ H2 x y v u Q I2 rx ry q)
theorem back {pins : List (Addr × Obj)} {σ : L2.St} {Q : VK} {v : Value} {s' : Shared} (z : EP X pins σ Q v s') : PySem.W.CmpBack (EP X pins σ Q) v s' := by
  obtain ⟨z', H', I', rz, qz⟩ := z
  exact SlX.cmpback rz ⟨z', H', I', rz, qz⟩
theorem ops_mulL (M : MulC X.K C f f') (F : FnOk X.prog X.w X.K X.mg X.base (L2.CX X.prog X.w) n f fd ps sp) (hr : Room n X.A) (hb : Binds X.K fd ps []) (tk : Takes X W) : OpRS X (binaryOp .Mult) (rOwnS C sp W) := by
  intro pins s σ H x y v u Q I rx ry h
  obtain ⟨a, dx, fs, i, rfl, rfl, ha, q⟩ := h
  cases (show v = Value.ref a from rx)
  obtain ⟨t, rfl⟩ := ry
  obtain ⟨mA, O, rr, _⟩ := ins_get I.hok ha
  obtain ⟨od, J, hl⟩ := O.look
  obtain ⟨m, hF⟩ := I.fr
  refine binop_of (by rfl) (mul_left hF I.ok.mod.kin J M.sf M.mu M.rm M.fm M.s1 ?_)
  exact wpAny_mono (run_fnS (us := [.ref a, .int i t]) (vs := [.ref a, .int i]) (E := WE W) F hr hb (passAt tk σ) I (.cons rfl (.cons ⟨t, rfl⟩ .nil)) q) (fun w s' z => back z) fun _ _ x => x
theorem ops_mulR (M : MulC X.K C f f') (F : FnOk X.prog X.w X.K X.mg X.base (L2.CX X.prog X.w) n f' fd ps sp) (hr : Room n X.A) (hb : Binds X.K fd ps []) (tk : Takes X W) : OpRS X (binaryOp .Mult) (rOwnRS C sp W) := by
  intro pins s σ H x y v u Q I rx ry h
  obtain ⟨a, dx, fs, i, rfl, rfl, ha, q⟩ := h
  cases (show u = Value.ref a from ry)
  obtain ⟨t, rfl⟩ := rx
  obtain ⟨mA, O, rr, _⟩ := ins_get I.hok ha
  obtain ⟨od, J, hl⟩ := O.look
  obtain ⟨m, hF⟩ := I.fr
  refine binop_of (by rfl) (mul_right hF I.ok.mod.kin J M.sf M.mu M.rm M.fr M.s2 ?_)
  exact wpAny_mono (run_fnS (us := [.ref a, .int i t]) (vs := [.ref a, .int i]) (E := WE W) F hr hb (passAt tk σ) I (.cons rfl (.cons ⟨t, rfl⟩ .nil)) q) (fun w s' z => back z) fun _ _ x => x
theorem ops_imul (M : MulC X.K C f f') (IC : InpC X.K C) (F : FnOk X.prog X.w X.K X.mg X.base (L2.CX X.prog X.w) n f fd ps sp) (hr : Room n X.A) (hb : Binds X.K fd ps []) (tk : Takes X W) : OpRS X (inplaceOp .Mult) (rOwnS C sp W) := by
  intro pins s σ H x y v u Q I rx ry h
  obtain ⟨a, dx, fs, i, rfl, rfl, ha, q⟩ := h
  cases (show v = Value.ref a from rx)
  obtain ⟨t, rfl⟩ := ry
  obtain ⟨mA, O, rr, _⟩ := ins_get I.hok ha
  obtain ⟨od, J, hl⟩ := O.look
  obtain ⟨m, hF⟩ := I.fr
  obtain ⟨cd, hcd, hm⟩ := IC.cd
  refine inpl_left hF I.ok.mod.kin J hcd hm IC.im (mul_left hF I.ok.mod.kin J M.sf M.mu M.rm M.fm M.s1 ?_)
  exact wpAny_mono (run_fnS (us := [.ref a, .int i t]) (vs := [.ref a, .int i]) (E := WE W) F hr hb (passAt tk σ) I (.cons rfl (.cons ⟨t, rfl⟩ .nil)) q) (fun w s' z => back z) fun _ _ x => x
/-- x op= e at a name, by an own class's def -/
def tAugO (i : Nat) (te : TE) (r : L2.St → R2) : TS := fun D σ H => ∃ x, σ[i]? = some (some x) ∧ te σ H fun y H1 => r σ x y H1 fun z H2 => D.nx (σ.set i (some z)) H2
theorem ps_augO {i : Nat} {x : Str} {e : Expr} {te : TE} {op : Operator} {r : L2.St → R2} {pos' : Pos} (hN : X.N.Nodup) (hi : X.N[i]? = some x) (hx : Loc X.env.scope x) (he : PE X e te) (ho : OpRS X (inplaceOp op) r)
    (hf : X.fn x = true ∨ X.env.scope.names.lookup x = some .local := by first | exact .inl rfl | exact .inr rfl | assumption) : PS X (.AugAssign (.Name x pos') op e pos) (tAugO i te r) := by
  refine ⟨fun pins s σ H D I h => ?_⟩
  obtain ⟨v, e1, h⟩ := h
  obtain ⟨m, hn, hl⟩ := I.loc
  have vis : Vis X.env.scope x := hx.elim Or.inl fun k => Or.inr (Or.inl k)
  obtain ⟨u, ru, l⟩ := hl i x v hi e1 vis
  refine wpAny_AugAssign_Name ?_
  have go : wpAny (model X.prog X.w) X.A (eval e X.env) (fun w s₂ => wpAny (model X.prog X.w) X.A (inplaceOp op u w) (fun q s₃ => wpAny (model X.prog X.w) X.A (storeName X.env x q) (fun _ => SP X pins D .next) X.xe s₃) X.xe s₂) X.xe s :=
    thn (he.run pins s σ H _ I h) fun w s1 ⟨y, H1, I1, r1, q1⟩ => thn (ho pins s1 σ H1 v y u w _ I1 ru r1 q1) fun z s2 ⟨zv, H2, I2, r2, q2⟩ => store_ok I2 hN hi hx r2 (fun s3 I3 => ⟨_, H2, I3, q2⟩) hf
  rcases l with ⟨hk, hm⟩ | ⟨hk, c, hc, hcell⟩
  · exact wpAny_loadName_local I.ok.kind hk hn hm go
  · rcases hk with hk | hk
    · exact wpAny_loadName_cell I.ok.kind hk hc hcell go
    · rcases hx with k | k <;> (rw [show X.env.scope.names.lookup x = some .free from hk] at k; cases k)
theorem op_ownC {op : CmpOp} (hop : ∀ a b, compareOp op a b = richCompare op a b) (hs : PySem.W.findIn X.K (.ref C) (cmpInfo op).2.1 = some (some (.ref g))) (hf : PySem.W.isFn X.K (.ref g) = true) (F : FnOk X.prog X.w X.K X.mg X.base CX n g fd ps sp)
    (hr : Room n X.A) (hb : Binds X.K fd ps []) (hx : Passes CX X E) : OpR X (compareOp op) (rOwnC C sp E) := by
  intro pins s σ H x y v u Q I rx ry h
  obtain ⟨a, dx, fs, b, dy, gs, rfl, rfl, ha, hb', q⟩ := h
  cases (show v = Value.ref a from rx)
  cases (show u = Value.ref b from ry)
  obtain ⟨mA, O, _⟩ := ins_get I.hok ha
  obtain ⟨od, J, _⟩ := O.look
  obtain ⟨mA', O', _⟩ := ins_get I.hok hb'
  obtain ⟨od', J', _⟩ := O'.look
  obtain ⟨m, hF⟩ := I.fr
  rw [hop]
  refine PySem.W.cmp_K (op := op) (tb := .ref C) hr.units0 hF I.ok.mod.kin J J'.type (by unfold PySem.W.notFirst; simp) hs hf ?_
  exact wpAny_mono (run_fn (us := [.ref a, .ref b]) (vs := [.ref a, .ref b]) F hr hb .nil hx I (.cons rfl (.cons rfl .nil)) (by rw [List.append_nil]; exact q)) (fun w s' z => back z) fun _ _ x => x
theorem r_topS {σ : L2.St} {H : Hp} {Q : VK} {r : L2.St → R2} (h : ta σ H fun x H1 => tb σ H1 fun y H2 => r σ x y H2 Q) : tOpS r ta tb σ H Q := h
theorem r_ownS {σ : L2.St} {H : Hp} {Q : VK} {x dx : Addr} {fs : List (Str × V)} {i : Int} (h : H x = some (.ins C dx fs)) (q : sp [.ref x, .int i] H Q (WE W σ)) : rOwnS C sp W σ (.ref x) (.int i) H Q := ⟨x, dx, fs, i, rfl, rfl, h, q⟩
theorem r_ownRS {σ : L2.St} {H : Hp} {Q : VK} {x dx : Addr} {fs : List (Str × V)} {i : Int} (h : H x = some (.ins C dx fs)) (q : sp [.ref x, .int i] H Q (WE W σ)) : rOwnRS C sp W σ (.int i) (.ref x) H Q := ⟨x, dx, fs, i, rfl, rfl, h, q⟩
theorem r_ownC {H : Hp} {Q : VK} {x dx y dy : Addr} {fs gs : List (Str × V)} (h : H x = some (.ins C dx fs)) (h' : H y = some (.ins C dy gs)) (q : sp [.ref x, .ref y] H Q E) : rOwnC C sp E (.ref x) (.ref y) H Q := ⟨x, dx, fs, y, dy, gs, rfl, rfl, h, h', q⟩
theorem r_augO {i : Nat} {σ : L2.St} {H : Hp} {D : Ends} {x : V} {r : L2.St → R2} (h : σ[i]? = some (some x)) (q : ta σ H fun y H1 => r σ x y H1 fun z H2 => D.nx (σ.set i (some z)) H2) : tAugO i ta r D σ H := ⟨x, h, q⟩
def rIsC (C : Addr) : List V → Hp → VK → Prop := fun xs H Q => ∃ a dx fs, xs = [.ref a, .ref C] ∧ H a = some (.ins C dx fs) ∧ Q (.bl true) H
theorem r_cbIsC {A : TA} {σ : L2.St} {H : Hp} {Q : VK} (h : A σ H fun vs H1 => rIsC C vs H1 Q) : tCB (fun xs H Q => ∃ a dx fs, xs = [V.ref a, V.ref C] ∧ H a = some (HO.ins C dx fs) ∧ Q (V.bl true) H) A σ H Q := h
theorem r_isC {H : Hp} {Q : VK} {x dx : Addr} {fs : List (Str × V)} (h : H x = some (.ins C dx fs)) (q : Q (.bl true) H) : rIsC C [.ref x, .ref C] H Q := ⟨x, dx, fs, rfl, h, q⟩
end
end OWN


namespace OWN
open PySem PySem.Spec PyProof.Rows L2
theorem tuple_mul1 (l : Addr) (items : Array Value) (n : Nat) (dd : Option Addr) (sl : Array (Option Value)) (x : Int) (u : Tok) (c0 : (decide (x < -(2 ^ 63)) || decide (x ≥ 2 ^ 63)) = false) (c1 : (items.isEmpty || x == 1) = true) :
    Meets (Builtin.«tuple.__mul__» ⟨[.ref l, .int x u], []⟩) (fun _ R s => s.heap.get? l = some { cls := .type "tuple", dict := dd, data := .seq items n, slots := sl } ∧ R (.ok (.ret (Value.ref l))) s) :=
  .of_wp fun prog w A R s h => by
    obtain ⟨hp, g, d, tk, os⟩ := s
    obtain ⟨hl, h⟩ := h
    have f1 := AutoSeq1.idx_int
    wp_walk using wpAny_loadPart' hl
    repeat (first
      | (refine wpAny_ite_false (decide_eq_false (by rw [c0]; exact Bool.false_ne_true)) ?_; wp_walk using wpAny_loadPart' hl)
      | (refine wpAny_ite_true (decide_eq_true (by rw [c1])) ?_; wp_walk using wpAny_loadPart' hl))
    exact ⟨_, rfl, h⟩
/-- t * k, k from 1 on -/
def rRepA (K : PySem.W.Frag) : R2 := fun x y H Q => ∃ l k xs, x = .ref l ∧ y = .int k ∧ SqT K H l xs ∧ xs ≠ [] ∧ 1 ≤ k ∧ k ≤ 1000 ∧ xs.length ≤ 1000 ∧ (k = 1 → Q (.ref l) H) ∧ (2 ≤ k → ∀ p, H p = none → Q (.ref p) (upd H p (.tup (List.replicate k.toNat xs).flatten)))
section
variable {X : Cx}
theorem op_repA : OpR X (binaryOp .Mult) (rRepA X.K) := by
  intro pins s σ H x y v u Q I rx ry h
  obtain ⟨l, k, xs, rfl, rfl, hT, hne, h1, h2, hz, q1, q2⟩ := h
  by_cases hk : k = 1
  · subst hk
    cases rx
    obtain ⟨t, rfl⟩ := ry
    obtain ⟨its, r, ⟨⟨cls, dd, data, sl⟩, ho, hc, n, hd⟩, hs⟩ := I.tuple hT
    simp only at hc hd
    subst hc hd
    refine wpAny_binaryOp_repeat_ref (T := "tuple") (U := "int") (by decide) ⟨_, ho, rfl⟩ (fun s' => typeIs_int s' 1 t) noFill_tuple_mul F.fills_int_mul F.slot_int_rmul repeat_tuple F.slot_int_index.lookup
      (call_meets F.slot_int_rmul (typeIs_int s 1 t) F.entry_int_rmul (F.args_int_rmul_2 _ _) (int_rmul_tuple 1 t l its.toArray n dd sl)
        ⟨ho, rfl, ⟨_, ho, rfl⟩, call_meets F.slot_tuple_mul ⟨_, ho, rfl⟩ F.entry_tuple_mul (F.args_tuple_mul_2 _ _) (tuple_mul1 l its.toArray n dd sl 1 t (by decide) (by simp)) ⟨ho, ?_⟩⟩)
    exact ⟨.ref l, H, I, rfl, q1 rfl⟩
  · exact op_repT pins s σ H _ _ v u Q I rx ry ⟨l, k, xs, rfl, rfl, hT, hne, by omega, h2, hz, q2 (by omega)⟩
end
/-- a class called by a local name: the i-th slot holds the class at C -/
def tMakeL (i : Nat) (C : Addr) (sp : Sp) (dvs : List V) (E : XK) (t : TA) : TE := fun σ H Q => σ[i]? = some (some (.ref C)) ∧ t σ H fun vs H1 => RD.rMake C sp dvs E vs H1 Q
section
variable {X : Cx} {CX : CXT} {k i : Nat} {C f : Addr} {fd : FuncData} {ps : List Str} {sp : Sp} {dvs : List V} {ds : List Value} {E : XK} {x : Str} {p pos : Pos} {e : Expr} {es : List Expr} {t : TA}
theorem pe_makeL (M : Mk X.K C f) (F : FnOk X.prog X.w X.K X.mg X.base CX k f fd ps sp) (hr : Room (k + 1) X.A) (hN : X.N[i]? = some x) (hv : Vis X.env.scope x) (hb : Binds X.K fd ps ds) (hd : Vals dvs ds) (hx : Passes CX X E) (ha : PA X (e :: es) t)
    (hdb : (x == ("__debug__" : Str)) = false := by decide) (hcd : (x == ("__classdict__" : Str)) = false := by decide)
    (he : starEach (e :: es) X.env = (false, eval e X.env) :: starEach es X.env := by rfl) (hpl : (backTo pos (starEach es X.env)).any (·.1) = false := by rfl) : PE X (.Call (.Name x p) (e :: es) [] pos) (tMakeL i C sp dvs E t) := by
  refine ⟨fun pins s σ H Q I h => ?_⟩
  obtain ⟨hs, ht⟩ := h
  refine wpAny_Call_Name_kw (thn ((pe_var (pos := p) hN hv hdb hcd).run pins s σ H (fun v H1 => v = .ref C ∧ H1 = H) I ⟨.ref C, hs, rfl, rfl⟩) fun u s1 ⟨v, H1, I1, r1, q1⟩ => ?_)
  obtain ⟨rfl, rfl⟩ := q1
  cases r1
  refine PySem.W.callWith_K (h₀ := X.base) I.ok.mod.kin M.kp (thn (ha.run pos pins s1 σ _ _ I1 ht) fun us s2 ⟨vs, H2, I2, r, q⟩ => ⟨I2.kIn, ?_⟩) he hpl
  exact run_make M F hr hb hd hx I2 r q
theorem r_makeL {A : TA} {σ : L2.St} {H : Hp} {Q : VK} (h : σ[i]? = some (some (.ref C))) (q : A σ H fun vs H1 => RD.rMake C sp dvs E vs H1 Q) : tMakeL i C sp dvs E A σ H Q := ⟨h, q⟩
theorem r_repA {K : PySem.W.Frag} {H : Hp} {Q : VK} {l : Addr} {z k : Int} (h : SqT K H l [V.int z]) (h1 : 1 ≤ k) (h2 : k ≤ 1000) (q : ∀ p H', (∀ b o, H b = some o → H' b = some o) → H' p = some (.tup ((List.replicate k.toNat z).map V.int)) → Q (.ref p) H') (hl : H l = some (.tup [V.int z])) : rRepA K (.ref l) (.int k) H Q := by
  refine ⟨l, k, _, rfl, rfl, h, by simp, h1, h2, by simp, fun e => ?_, fun _ p hp => ?_⟩
  · subst e; exact q l H (fun _ _ e => e) hl
  · refine q p _ (fun b o e => by rw [upd_ne (ne_of_none e hp)]; exact e) ?_
    rw [upd_same]
    have : ∀ n : Nat, (List.replicate n [V.int z]).flatten = (List.replicate n z).map V.int := fun n => by
      induction n with
      | zero => rfl
      | succ n ih => rw [List.replicate_succ, List.flatten_cons, ih, List.replicate_succ, List.map_cons]; rfl
    rw [this]
end
/-- o.m(e, ..) with what is raised wished for at the slots -/
def tMethW (C : Addr) (m : Str) (sp : Sp) (W : WX) (ta : TE) (t : TA) : TE := fun σ H Q => ta σ H fun x H1 => ∃ a dx fs, x = .ref a ∧ H1 a = some (.ins C dx fs) ∧ fs.lookup m = none ∧ t σ H1 fun vs H2 => sp (x :: vs) H2 Q (WE W σ)
/-- C.m(e, ..), m a classmethod, likewise -/
def tCMethW (C : Addr) (sp : Sp) (W : WX) (ta : TE) (t : TA) : TE := fun σ H Q => ta σ H fun x H1 => x = .ref C ∧ t σ H1 fun vs H2 => sp (.ref C :: vs) H2 Q (WE W σ)
section
variable {X : Cx} {k : Nat} {C f p g : Addr} {fd : FuncData} {ps : List Str} {sp : Sp} {W : WX} {m : Str} {pos apos : Pos} {o e : Expr} {es : List Expr} {ta : TE} {t : TA} {pl : Sem Bool} {mc : Value}
theorem pe_methW (he : PE X o ta) (c : Cls X.K C) (hm : Meth X.K C m f) (F : FnOk X.prog X.w X.K X.mg X.base (L2.CX X.prog X.w) k f fd ps sp) (hr : Room k X.A) (hb : Binds X.K fd ps []) (tk : Takes X W) (ha : PA X (e :: es) t)
    (hst : starEach (e :: es) X.env = (false, eval e X.env) :: starEach es X.env := by rfl) (hpl : (backTo pos (starEach es X.env)).any (·.1) = false := by rfl)
    (ht : eval (.Call (.Attribute o m apos) (e :: es) [] pos) X.env = (do
      let ov ← eval o X.env
      standAt apos.atName
      let (f, first) ← holding [ov] (getMethod ov m pl)
      callWith pos f first (backTo pos (starEach (e :: es) X.env)) (backToKw pos (keywordEach [] X.env))) := by rfl) :
    PE X (.Call (.Attribute o m apos) (e :: es) [] pos) (tMethW C m sp W ta t) := by
  refine ⟨fun pins s σ H Q I h => ?_⟩
  refine PySem.W.methodCall_KW (pl := pl) (thn (he.run pins s σ H _ I h) fun u s1 ⟨x, H1, I1, rx, a, dx, fs, ex, ea, l, q⟩ => ?_) ht
  subst ex
  obtain rfl : u = Value.ref a := rx
  refine getmeth_ok I1 ea c hm l ?_
  refine PySem.W.callWith_K (first := [.ref a]) (h₀ := X.base) I.ok.mod.kin hm.kp (thn (ha.run pos pins s1 σ H1 _ I1 q) fun us s2 ⟨vs, H2, I2, r, q2⟩ => ⟨I2.kIn, ?_⟩) hst hpl
  exact run_fnS (us := .ref a :: us) (vs := .ref a :: vs) (E := WE W) F hr hb (passAt tk σ) I2 (.cons rfl r) q2
theorem run_cmW {pins : List (Addr × Obj)} {σ : L2.St} {H : Hp} {s : Shared} {q : Addr} {Q : VK} {us : List Value} {vs : List V} (F : FnOk X.prog X.w X.K X.mg X.base (L2.CX X.prog X.w) k g fd ps sp) (hr : Room k X.A) (hb : Binds X.K fd ps []) (tk : Takes X W)
    (I : Inv X ((q, PySem.W.methodObj (.ref g) (.ref C)) :: pins) σ H s) (r : Vals vs us) (h : sp (.ref C :: vs) H Q (WE W σ)) : wpAny (model X.prog X.w) X.A (call (.ref q) us) (EP X pins σ Q) X.xe s := by
  have z : wpAny (model X.prog X.w) X.A (call (.ref q) us) (EP X ((q, PySem.W.methodObj (.ref g) (.ref C)) :: pins) σ Q) X.xe s := by
    refine wpAny_call (PySem.W.method_call (ClX.pin_at I) ?_)
    have r' : Vals (.ref C :: vs) (.ref C :: us) := .cons rfl r
    have hl : (Value.ref C :: us).length = ps.length := by rw [← r'.length]; exact F.len _ _ _ _ h
    have b := hb s (.ref C :: us) I.kIn (by rw [List.append_nil]; exact hl)
    rw [List.append_nil] at b
    refine codeAny_mono (F.run X.A X.stack s H ⟨.ref C :: us, []⟩ (.ref C :: us) (.ref C :: vs) Q (WE W σ) hr I.env0 b r' h) fun r s' hq => ?_
    cases r with
    | error e => exact passAt tk σ _ H s e s' I hq
    | ok fl =>
      cases fl with
      | ret u => exact I.after hq
      | next => exact False.elim hq
      | brk => exact False.elim hq
      | cont => exact False.elim hq
  exact thn z fun _ _ y => ClX.unpinE y
theorem pe_cmethW (he : PE X o ta) (r : ClX.CRead X.K C mc) (c : ClX.CMet X.K C mc m p g) (F : FnOk X.prog X.w X.K X.mg X.base (L2.CX X.prog X.w) k g fd ps sp) (hr : Room k X.A) (hb : Binds X.K fd ps []) (tk : Takes X W) (ha : PA X (e :: es) t)
    (hst : starEach (e :: es) X.env = (false, eval e X.env) :: starEach es X.env := by rfl) (hpl : (backTo pos (starEach es X.env)).any (·.1) = false := by rfl)
    (ht : eval (.Call (.Attribute o m apos) (e :: es) [] pos) X.env = (do
      let ov ← eval o X.env
      standAt apos.atName
      let (f, first) ← holding [ov] (getMethod ov m pl)
      callWith pos f first (backTo pos (starEach (e :: es) X.env)) (backToKw pos (keywordEach [] X.env))) := by rfl) :
    PE X (.Call (.Attribute o m apos) (e :: es) [] pos) (tCMethW C sp W ta t) := by
  refine ⟨fun pins s σ H Q I h => ?_⟩
  refine PySem.W.methodCall_KW (pl := pl) (thn (he.run pins s σ H _ I h) fun u s1 ⟨x, H1, I1, rx, ex, q⟩ => ?_) ht
  subst ex
  obtain rfl : u = Value.ref C := rx
  refine ClX.getmethcm_ok I1 r c fun s2 I2 => ?_
  refine ClX.callwith_cm I2 (ClX.base_none I1 (Nat.le_refl _)) c.fi (thn (ha.run pos _ s2 σ H1 _ I2 q) fun us s3 ⟨vs, H2, I3, rv, q2⟩ => ⟨⟨ClX.pin_at I3, I3.kIn⟩, ?_⟩) hst hpl
  exact run_cmW F hr hb tk I3 rv q2
def rMethW (C : Addr) (m : Str) (sp : Sp) (W : WX) (t : TA) (σ : L2.St) : V → Hp → VK → Prop := fun x H1 Q => ∃ a dx fs, x = .ref a ∧ H1 a = some (.ins C dx fs) ∧ fs.lookup m = none ∧ t σ H1 fun vs H2 => sp (x :: vs) H2 Q (WE W σ)
theorem r_tmethW {σ : L2.St} {H : Hp} {Q : VK} (h : ta σ H fun x H1 => rMethW C m sp W t σ x H1 Q) : tMethW C m sp W ta t σ H Q := h
theorem r_methW {σ : L2.St} {H : Hp} {Q : VK} {a dx : Addr} {fs : List (Str × V)} (h : H a = some (.ins C dx fs)) (l : fs.lookup m = none) (q : t σ H fun vs H2 => sp (.ref a :: vs) H2 Q (WE W σ)) : rMethW C m sp W t σ (.ref a) H Q := ⟨a, dx, fs, rfl, h, l, q⟩
def rCMethW (C : Addr) (sp : Sp) (W : WX) (t : TA) (σ : L2.St) : V → Hp → VK → Prop := fun x H1 Q => x = .ref C ∧ t σ H1 fun vs H2 => sp (.ref C :: vs) H2 Q (WE W σ)
theorem r_tcmethW {σ : L2.St} {H : Hp} {Q : VK} (h : ta σ H fun x H1 => rCMethW C sp W t σ x H1 Q) : tCMethW C sp W ta t σ H Q := h
theorem r_cmethW {σ : L2.St} {H : Hp} {Q : VK} (q : t σ H fun vs H2 => sp (.ref C :: vs) H2 Q (WE W σ)) : rCMethW C sp W t σ (.ref C) H Q := ⟨rfl, q⟩
end
end OWN


namespace OWN
open PySem PySem.Spec PyProof.Rows L2
/-- three tuples walked side by side, the items in new triples -/
def Itz3 (K : PySem.W.Frag) (a b c : Addr) : It :=
  ⟨fun i H => ∃ (xs ys zs : List V) (x y z : V), SqT K H a xs ∧ SqT K H b ys ∧ SqT K H c zs ∧ xs[i]? = some x ∧ ys[i]? = some y ∧ zs[i]? = some z,
    fun i H v H' => ∃ T x y z, v = .ref T ∧ H T = none ∧ H' = upd H T (.tup [x, y, z]) ∧ (∀ xs, SqT K H a xs → xs[i]? = some x) ∧ (∀ ys, SqT K H b ys → ys[i]? = some y) ∧ ∀ zs, SqT K H c zs → zs[i]? = some z,
    fun i H => ∃ xs ys zs : List V, SqT K H a xs ∧ SqT K H b ys ∧ SqT K H c zs ∧ i = min (min xs.length ys.length) zs.length⟩
/-- the iterators' own state ahead of turn i -/
def Z3 (z TI TO i1 i2 i3 a b c : Addr) (i : Nat) (h : Heap) : Prop :=
  IsZip h z TI TO .none ∧ IsTupOf3 h TI (.ref i1) (.ref i2) (.ref i3) ∧ (∃ a1 a2 a3, IsTupOf3 h TO a1 a2 a3) ∧ h.IsTupleIter i1 a i ∧ h.IsTupleIter i2 b i ∧ h.IsTupleIter i3 c i
theorem turn_zip3 {P : Program} {w : World} {K : PySem.W.Frag} {elts : List Expr} {kk : Nat} {tpos : Pos} {a b c z TI TO i1 i2 i3 : Addr} (D : ZipSep3 z TI TO i1 i2 i3 [i1, a] [i2, b] [i3, c]) (na : a ≠ i1) (nb : b ≠ i2) (nc : c ≠ i3) :
    Turn P w K (.Tuple elts kk tpos) (Itz3 K a b c) [z, TI, TO, i1, i2, i3] z (Z3 z TI TO i1 i2 i3 a b c) where
  mem := by simp
  obj := fun i h st x hx => by
    obtain ⟨hz, hTI, ⟨a1, a2, a3, hTO⟩, ⟨o1, e1, _, d1⟩, ⟨o2, e2, _, d2⟩, ⟨o3, e3, _, d3⟩⟩ := st
    have e' : x = z ∨ x = TI ∨ x = TO ∨ x = i1 ∨ x = i2 ∨ x = i3 := by simpa using hx
    rcases e' with q | q | q | q | q | q
    · rw [q]; exact ⟨_, hz, fun v q => nomatch q⟩
    · rw [q]; exact ⟨_, hTI, fun v q => nomatch q⟩
    · rw [q]; exact ⟨_, hTO, fun v q => nomatch q⟩
    · rw [q]; exact ⟨o1, e1, fun v q => by rw [d1] at q; cases q⟩
    · rw [q]; exact ⟨o2, e2, fun v q => by rw [d2] at q; cases q⟩
    · rw [q]; exact ⟨o3, e3, fun v q => by rw [d3] at q; cases q⟩
  keep := fun i h h' st k => by
    obtain ⟨hz, hTI, ⟨a1, a2, a3, hTO⟩, h1, h2, h3⟩ := st
    exact ⟨k z (by simp) _ hz, k TI (by simp) _ hTI, ⟨a1, a2, a3, k TO (by simp) _ hTO⟩, h1.at fun o q => k i1 (by simp) o q, h2.at fun o q => k i2 (by simp) o q, h3.at fun o q => k i3 (by simp) o q⟩
  item := by
    intro X hP hw hK hc i pins s σ H E I hf st hg
    subst hP hw hK
    obtain ⟨hz, hTI, hTO, h1, h2, h3⟩ := id st
    obtain ⟨xs, ys, zs, x, y, v, hqx, hqy, hqz, hx, hy, hv⟩ := hg
    obtain ⟨its1, rv1, p1, _⟩ := I.tuple hqx
    obtain ⟨its2, rv2, p2, _⟩ := I.tuple hqy
    obtain ⟨its3, rv3, p3, _⟩ := I.tuple hqz
    obtain ⟨u1, hu1, ru1⟩ := rv1.get hx
    obtain ⟨u2, hu2, ru2⟩ := rv2.get hy
    obtain ⟨u3, hu3, ru3⟩ := rv3.get hv
    have hh := I.ok.hd hc
    have hh' : X.A.in1.handled = none := hh
    have W := GoesN.zip3 (prog := X.prog) (w := X.w) (A := X.A) (elts := elts) (x1 := kk) (pos := tpos) D (Draws.tuple hh' i1 a na its1.toArray) (Draws.tuple hh' i2 b nb its2.toArray) (Draws.tuple hh' i3 c nc its3.toArray)
    have l1 := (List.getElem?_eq_some_iff.mp hu1).1
    have l2 := (List.getElem?_eq_some_iff.mp hu2).1
    have l3 := (List.getElem?_eq_some_iff.mp hu3).1
    refine W.goes i s _ E (by simp; omega) ⟨hz, hTI, hTO, ⟨h1, p1⟩, ⟨h2, p2⟩, ⟨h3, p3⟩⟩ fun vv h' tk hY hS hk ht => ?_
    obtain ⟨T, v1, v2, v3, rfl, hT, e1, e2, e3, hTT⟩ := hY
    obtain ⟨hz', hTI', hTO', ⟨h1', _⟩, ⟨h2', _⟩, ⟨h3', _⟩⟩ := hS
    have q1 : v1 = u1 := by
      have := e1; rw [List.getElem?_toArray, hu1] at this; exact (Option.some.inj this).symm
    have q2 : v2 = u2 := by
      have := e2; rw [List.getElem?_toArray, hu2] at this; exact (Option.some.inj this).symm
    have q3 : v3 = u3 := by
      have := e3; rw [List.getElem?_toArray, hu3] at this; exact (Option.some.inj this).symm
    subst q1 q2 q3
    have new : ObjOk X.prog X.w (upd H T (.tup [x, y, v])) h' T (.tup [x, y, v]) := ⟨by show 3 ≤ sizeLine; decide, [v1, v2, v3], .cons ru1 (.cons ru2 (.cons ru3 .nil)), hTT⟩
    have sub : ∀ d, d ∈ [z, TO, i1, i2, i3] → d ∈ [z, TI, TO, i1, i2, i3] := fun d hd => by
      have e' : d = z ∨ d = TO ∨ d = i1 ∨ d = i2 ∨ d = i3 := by simpa using hd
      rcases e' with q | q | q | q | q <;> (rw [q]; simp)
    have I1 : Inv X pins σ (upd H T (.tup [x, y, v])) { s with heap := h', toks := tk } := I.turnedNew (ch := [z, TO, i1, i2, i3]) hk (fun d hd => hf d (sub d hd)) hT new
    refine ⟨.ref T, _, I1, rfl, ⟨T, x, y, v, rfl, I.hok.fresh hT, rfl, fun l hl => by rw [I.tuple_inj hl hqx]; exact hx, fun l hl => by rw [I.tuple_inj hl hqy]; exact hy, fun l hl => by rw [I.tuple_inj hl hqz]; exact hv⟩, ⟨hz', hTI', hTO', h1', h2', h3'⟩, fun d hd => ?_⟩
    have hlt : d < s.heap.objs.size := by
      have e' : d = z ∨ d = TI ∨ d = TO ∨ d = i1 ∨ d = i2 ∨ d = i3 := by simpa using hd
      obtain ⟨a1, a2, a3, hTOo⟩ := hTO
      obtain ⟨o1, g1, _⟩ := h1
      obtain ⟨o2, g2, _⟩ := h2
      obtain ⟨o3, g3, _⟩ := h3
      rcases e' with q | q | q | q | q | q
      · rw [q]; exact Heap.lt_size hz
      · rw [q]; exact Heap.lt_size hTI
      · rw [q]; exact Heap.lt_size hTOo
      · rw [q]; exact Heap.lt_size g1
      · rw [q]; exact Heap.lt_size g2
      · rw [q]; exact Heap.lt_size g3
    rw [upd_ne (Nat.ne_of_lt (Nat.lt_of_lt_of_le hlt hT))]
    exact (hf d hd).1
  done := by
    intro X hP hw hK hc i pins s σ H E I hf st hg
    subst hP hw hK
    obtain ⟨hz, hTI, hTO, h1, h2, h3⟩ := id st
    obtain ⟨xs, ys, zs, hqx, hqy, hqz, hi⟩ := hg
    obtain ⟨its1, rv1, p1, _⟩ := I.tuple hqx
    obtain ⟨its2, rv2, p2, _⟩ := I.tuple hqy
    obtain ⟨its3, rv3, p3, _⟩ := I.tuple hqz
    have hh' : X.A.in1.handled = none := I.ok.hd hc
    have W := GoesN.zip3 (prog := X.prog) (w := X.w) (A := X.A) (elts := elts) (x1 := kk) (pos := tpos) D (Draws.tuple hh' i1 a na its1.toArray) (Draws.tuple hh' i2 b nb its2.toArray) (Draws.tuple hh' i3 c nc its3.toArray)
    have l1 := rv1.length
    have l2 := rv2.length
    have l3 := rv3.length
    have sub : ∀ d, d ∈ [z, TO, i1, i2, i3] → d ∈ [z, TI, TO, i1, i2, i3] := fun d hd => by
      have e' : d = z ∨ d = TO ∨ d = i1 ∨ d = i2 ∨ d = i3 := by simpa using hd
      rcases e' with q | q | q | q | q <;> (rw [q]; simp)
    have hn : i = min (min its1.toArray.size its2.toArray.size) its3.toArray.size := by simp; omega
    subst hn
    exact W.stops s _ E ⟨hz, hTI, hTO, ⟨h1, p1⟩, ⟨h2, p2⟩, ⟨h3, p3⟩⟩ fun h' tk hk ht => I.turnedL (ch := [z, TO, i1, i2, i3]) hk (fun d hd => hf d (sub d hd))
  self := fun A i s Q E st h => wpAny_pyIter_zip st.1 h
def iZip3 (K : PySem.W.Frag) (ta : TA) : TI := fun σ H R => ta σ H fun vs H1 => ∃ a b c xs ys zs, vs = [.ref a, .ref b, .ref c] ∧ SqT K H1 a xs ∧ SqT K H1 b ys ∧ SqT K H1 c zs ∧ R (Itz3 K a b c) H1
theorem pi_zip3 {X : Cx} {e e2 e3 : Expr} {ta : TA} {p pos tpos : Pos} {elts : List Expr} {kk : Nat} (hg : Gl X "zip") (hm : X.mg "zip" = none) (ha : PA X [e, e2, e3] ta)
    (hs : starEach [e, e2, e3] X.env = (false, eval e X.env) :: starEach [e2, e3] X.env := by rfl) (hpl : (backTo pos (starEach [e2, e3] X.env)).any (·.1) = false := by rfl) :
    PI X (.Tuple elts kk tpos) (.Call (.Name "zip" p) [e, e2, e3] [] pos) (iZip3 X.K ta) := by
  refine ⟨fun pins s σ H R I h => ?_⟩
  refine Call_ (ld_blt I hg hm PyProof.Rows.boot_zip (PyProof.Rows.callWith_type1 (thn (ha.run pos pins s σ H _ I h) fun us s1 ⟨vs, H1, I1, r1, q1⟩ => ?_) hs hpl))
  obtain ⟨a, b, c, xs, ys, zs, ex, hqx, hqy, hqz, q⟩ := q1
  subst ex
  cases r1 with
  | cons r rr =>
  cases rr with
  | cons r' rr =>
  cases rr with
  | cons r'' rr =>
    cases rr
    cases r
    cases r'
    cases r''
    obtain ⟨its1, rv1, p1, _⟩ := I1.tuple hqx
    obtain ⟨its2, rv2, p2, _⟩ := I1.tuple hqy
    obtain ⟨its3, rv3, p3, _⟩ := I1.tuple hqz
    have la : a < s1.heap.objs.size := let ⟨_, g, _⟩ := p1; Heap.lt_size g
    have lb : b < s1.heap.objs.size := let ⟨_, g, _⟩ := p2; Heap.lt_size g
    have lc : c < s1.heap.objs.size := let ⟨_, g, _⟩ := p3; Heap.lt_size g
    refine zip_begins3 (begins_tuple a its1.toArray) (begins_tuple b its2.toArray) (begins_tuple c its3.toArray) p1 p2 p3 fun h' hz hTI hTO h1 h2 h3 hsz hk => wpAny_pyIter_zip hz ?_
    have I2 : Inv X pins σ H1 { s1 with heap := h' } := I1.kept (t' := s1.toks) hk
    have D : ZipSep3 (s1.heap.objs.size + 5) (s1.heap.objs.size + 3) (s1.heap.objs.size + 4) s1.heap.objs.size (s1.heap.objs.size + 1) (s1.heap.objs.size + 2) [s1.heap.objs.size, a] [s1.heap.objs.size + 1, b] [s1.heap.objs.size + 2, c] :=
      zip_sep3 (fp1 := [a]) (fp2 := [b]) (fp3 := [c]) (fun d hd => by rw [List.mem_singleton.mp hd]; exact la) (fun d hd => by rw [List.mem_singleton.mp hd]; exact lb) (fun d hd => by rw [List.mem_singleton.mp hd]; exact lc)
    refine ⟨s1.heap.objs.size + 5, [s1.heap.objs.size + 5, s1.heap.objs.size + 3, s1.heap.objs.size + 4, s1.heap.objs.size, s1.heap.objs.size + 1, s1.heap.objs.size + 2], _, _, H1, rfl, I2,
      turn_zip3 D (Nat.ne_of_lt la) (Nat.ne_of_lt (Nat.lt_succ_of_lt lb)) (Nat.ne_of_lt (Nat.lt_succ_of_lt (Nat.lt_succ_of_lt lc))), ⟨hz, hTI, ⟨_, _, _, hTO⟩, ⟨_, h1, rfl, rfl⟩, ⟨_, h2, rfl, rfl⟩, ⟨_, h3, rfl, rfl⟩⟩, fun d hd => ?_, q⟩
    have hle : s1.heap.objs.size ≤ d := by
      have e' : d = s1.heap.objs.size + 5 ∨ d = s1.heap.objs.size + 3 ∨ d = s1.heap.objs.size + 4 ∨ d = s1.heap.objs.size ∨ d = s1.heap.objs.size + 1 ∨ d = s1.heap.objs.size + 2 := by simpa using hd
      rcases e' with z | z | z | z | z | z
      · rw [z]; exact Nat.le_add_right _ _
      · rw [z]; exact Nat.le_add_right _ _
      · rw [z]; exact Nat.le_add_right _ _
      · rw [z]; exact Nat.le_refl _
      · rw [z]; exact Nat.le_add_right _ _
      · rw [z]; exact Nat.le_add_right _ _
    exact I1.fpOk hle (I1.hok.fresh hle)
theorem for_zip3 {K : PySem.W.Frag} {a b c : Addr} {xs ys zs : List V} {g : TG} {tb : TS} {D : Ends} {σ : L2.St} {H : Hp} (e1 : ys.length = xs.length) (e2 : zs.length = xs.length) (Pv : Nat → L2.St → Hp → Prop) (h0 : Pv 0 σ H) (hq : ∀ i σ H, Pv i σ H → SqT K H a xs ∧ SqT K H b ys ∧ SqT K H c zs)
    (hs : ∀ (i : Nat) (x y z : V) (T : Addr) (σ : L2.St) (H : Hp), xs[i]? = some x → ys[i]? = some y → zs[i]? = some z → Pv i σ H → H T = none → g (.ref T) σ (upd H T (.tup [x, y, z])) fun σ2 H2 => tb { D with nx := Pv (i + 1), ct := Pv (i + 1), bk := D.nx } σ2 H2) (hd : ∀ σ H, Pv xs.length σ H → D.nx σ H) :
    ∃ W : Nat → Nat → L2.St → Hp → Prop, (∃ m, W 0 m σ H) ∧ ∀ i m σ H, W i m σ H →
      ((Itz3 K a b c).stop i H ∧ D.nx σ H) ∨ ((Itz3 K a b c).go i H ∧ ∃ N : L2.St → Hp → Prop, (∀ σ' H', N σ' H' → ∃ m', m' < m ∧ W (i + 1) m' σ' H') ∧ ∀ v H', (Itz3 K a b c).yld i H v H' → g v σ H' fun σ2 H2 => tb { D with nx := N, ct := N, bk := D.nx } σ2 H2) := by
  refine ⟨fun i m σ H => m = xs.length - i ∧ i ≤ xs.length ∧ Pv i σ H, ⟨xs.length, rfl, Nat.zero_le _, h0⟩, ?_⟩
  rintro i m σ H ⟨rfl, hi, p⟩
  obtain ⟨qx, qy, qz⟩ := hq i σ H p
  by_cases hlt : i < xs.length
  · have hx : xs[i]? = some xs[i] := List.getElem?_eq_getElem hlt
    have hy : ys[i]? = some (ys[i]'(by omega)) := List.getElem?_eq_getElem (by omega)
    have hz : zs[i]? = some (zs[i]'(by omega)) := List.getElem?_eq_getElem (by omega)
    refine .inr ⟨⟨xs, ys, zs, _, _, _, qx, qy, qz, hx, hy, hz⟩, Pv (i + 1), fun σ' H' p' => ⟨xs.length - (i + 1), by omega, rfl, hlt, p'⟩, fun v H' y => ?_⟩
    obtain ⟨T, x', y', z', rfl, hT, rfl, f1, f2, f3⟩ := y
    exact hs i x' y' z' T σ H (f1 xs qx) (f2 ys qy) (f3 zs qz) p hT
  · have e : i = xs.length := by omega
    subst e
    exact .inl ⟨⟨xs, ys, zs, qx, qy, qz, by omega⟩, hd σ H p⟩
end OWN


namespace OWN
open PySem PySem.Spec PyProof.Rows L2
/-- a list comprehension over a range with a step -/
theorem lc_rangeC {lo c : Int} {n : Nat} {g : TG} {tt : TT} {te : TE} {vs : List Nat} {σ : L2.St} {H1 : Hp} {D : Addr} {Qd : Hp → Prop} (Pv : Nat → Hp → Prop) (h0 : Pv 0 (upd H1 D (.lst [])))
    (hs : ∀ i H, i < n → Pv i H → g (.int (lo + (i : Nat) * c)) (wipe σ vs) H fun σ2 H2 => wipe σ2 vs = wipe σ vs ∧ tt σ2 H2 fun b H3 =>
      if b = true then te σ2 H3 fun y H4 => ∃ acc, H4 D = some (.lst acc) ∧ acc.length < sizeLine ∧ Pv (i + 1) (upd H4 D (.lst (acc ++ [y]))) else Pv (i + 1) H3) (hd : ∀ H, Pv n H → Qd H) :
    ∃ W : Nat → Nat → Hp → Prop, (∃ m, W 0 m (upd H1 D (.lst []))) ∧ ∀ i m H, W i m H →
      ((Itc lo c n).stop i H ∧ Qd H) ∨ ((Itc lo c n).go i H ∧ ∃ Nx : Hp → Prop, (∀ H', Nx H' → ∃ m', m' < m ∧ W (i + 1) m' H') ∧ ∀ x H', (Itc lo c n).yld i H x H' → g x (wipe σ vs) H' fun σ2 H2 => wipe σ2 vs = wipe σ vs ∧ tt σ2 H2 fun b H3 =>
        if b = true then te σ2 H3 fun y H4 => ∃ acc, H4 D = some (.lst acc) ∧ acc.length < sizeLine ∧ Nx (upd H4 D (.lst (acc ++ [y]))) else Nx H3) := by
  refine ⟨fun i m H => m = n - i ∧ i ≤ n ∧ Pv i H, ⟨n, by simp, Nat.zero_le _, h0⟩, ?_⟩
  rintro i m H ⟨rfl, hi, p⟩
  by_cases hlt : i < n
  · refine .inr ⟨hlt, Pv (i + 1), fun H' p' => ⟨n - (i + 1), by omega, rfl, hlt, p'⟩, fun x H' y => ?_⟩
    obtain ⟨e, y⟩ := y
    subst e y
    exact hs i _ hlt p
  · have e : i = n := by omega
    subst e
    exact .inl ⟨Nat.le_refl _, hd H p⟩
/-- range(0, 2 * n, 2): n items -/
theorem rgc_two {n : Nat} (h : n ≤ 1000) : RgC 0 (2 * (n : Int)) 2 n := by
  have e := rangeSize_pos (len := 2 * (n : Int)) (c := 2) (by decide) (by omega)
  have e2 : Builtin.Range.rangeSize 0 (2 * (n : Int)) 2 = n := by rw [e]; omega
  refine ⟨by decide, by decide, ?_, e2⟩
  unfold Builtin.Range.small
  rw [e2]
  simp [Builtin.Range.rangeFitsLong]
  omega
theorem r_slL {K : PySem.W.Frag} {a : Addr} {xs : List V} {lo hi : Option Int} {H : Hp} {Q : VK} (h : H a = some (.lst xs)) (q : ∀ p, H p = none → Q (.ref p) (upd H p (.lst (cutV xs lo hi)))) : rSlL K (.ref a) lo hi H Q := ⟨a, xs, rfl, SqL.of h, q⟩
theorem r_bits {te : TE} {σ : L2.St} {H : Hp} {Q : VK} (h : te σ H fun x H1 => ∃ i, x = V.int i ∧ Q (.int (Builtin.Int.intBits i : Nat)) H1) : tBits te σ H Q := h
def rForZ (K : PySem.W.Frag) (g : TG) (tb : TS) (D : Ends) (σ : L2.St) (vs : List V) (H1 : Hp) : Prop := ∃ a b c xs ys zs, vs = [V.ref a, V.ref b, V.ref c] ∧ SqT K H1 a xs ∧ SqT K H1 b ys ∧ SqT K H1 c zs ∧
  ∃ W : Nat → Nat → L2.St → Hp → Prop, (∃ m, W 0 m σ H1) ∧ ∀ i m σ H, W i m σ H →
      ((Itz3 K a b c).stop i H ∧ D.nx σ H) ∨ ((Itz3 K a b c).go i H ∧ ∃ N : L2.St → Hp → Prop, (∀ σ' H', N σ' H' → ∃ m', m' < m ∧ W (i + 1) m' σ' H') ∧ ∀ v H', (Itz3 K a b c).yld i H v H' → g v σ H' fun σ2 H2 => tb { D with nx := N, ct := N, bk := D.nx } σ2 H2)
theorem r_forZ {K : PySem.W.Frag} {ta : TA} {g : TG} {tb : TS} {D : Ends} {σ : L2.St} {H : Hp} (h : ta σ H fun vs H1 => rForZ K g tb D σ vs H1) : tFor (iZip3 K ta) g tb D σ H := h
theorem r_rep1 {l : Addr} {k : Int} {x : V} {H : Hp} {Q : VK} (h : H l = some (.lst [x])) (h1 : -1000 ≤ k) (h2 : k ≤ 1000) (q : ∀ p, H p = none → Q (.ref p) (upd H p (.lst (List.replicate k.toNat x)))) : rRep (.ref l) (.int k) H Q := by
  refine ⟨l, k, [x], rfl, rfl, h, by omega, by omega, Nat.le_trans (m := 1000) (by simp; omega) (by decide), fun p hp => ?_⟩
  have e : (List.replicate k.toNat [x]).flatten = List.replicate k.toNat x := by simp
  rw [e]
  exact q p hp
theorem r_ext {l b : Addr} {xs zs : List V} {H : Hp} {Q : VK} (h : H l = some (.lst xs)) (h2 : H b = some (.lst zs)) (hz : xs.length + zs.length ≤ 1000) (q : Q .non (upd H l (.lst (xs ++ zs)))) : rExtend (.ref l) [.ref b] H Q :=
  ⟨l, b, xs, zs, rfl, rfl, h, h2, Nat.le_trans hz (by decide), q⟩
theorem r_extG {l b : Addr} {xs zs : List V} {H : Hp} {Q : VK} (h : H l = some (.lst xs)) (h2 : H b = some (.lst zs)) (hz : xs.length + zs.length ≤ 1000) (q : ∀ H', H' l = some (.lst (xs ++ zs)) → (∀ b' o, b' ≠ l → H b' = some o → H' b' = some o) → Q .non H') : rExtend (.ref l) [.ref b] H Q :=
  r_ext h h2 hz (q _ upd_same fun b' o hb e => by rw [upd_ne hb]; exact e)
def rForR (g : TG) (tb : TS) (D : Ends) (σ : L2.St) (vs : List V) (H1 : Hp) : Prop := ∃ j : Int, vs = [V.int j] ∧ -(2 ^ 62) ≤ j ∧ j < 2 ^ 62 ∧
  ∃ W : Nat → Nat → L2.St → Hp → Prop, (∃ m, W 0 m σ H1) ∧ ∀ i m σ H, W i m σ H →
      ((Itr 0 j.toNat).stop i H ∧ D.nx σ H) ∨ ((Itr 0 j.toNat).go i H ∧ ∃ N : L2.St → Hp → Prop, (∀ σ' H', N σ' H' → ∃ m', m' < m ∧ W (i + 1) m' σ' H') ∧ ∀ v H', (Itr 0 j.toNat).yld i H v H' → g v σ H' fun σ2 H2 => tb { D with nx := N, ct := N, bk := D.nx } σ2 H2)
theorem r_forR {ta : TA} {g : TG} {tb : TS} {D : Ends} {σ : L2.St} {H : Hp} (h : ta σ H fun vs H1 => rForR g tb D σ vs H1) : tFor (iRng1 ta) g tb D σ H := h
theorem r_forRx {g : TG} {tb : TS} {D : Ends} {σ : L2.St} {H : Hp} {j : Int} {n : Nat} (e : j = (n : Int)) (hb : n ≤ 1000000) (Pv : Nat → L2.St → Hp → Prop) (h0 : Pv 0 σ H)
    (hs : ∀ (i : Nat) σ H, i < n → Pv i σ H → g (.int (i : Int)) σ H fun σ2 H2 => tb { D with nx := Pv (i + 1), ct := Pv (i + 1), bk := D.nx } σ2 H2) (hd : ∀ σ H, Pv n σ H → D.nx σ H) : rForR g tb D σ [.int j] H := by
  subst e
  refine ⟨_, rfl, by omega, by omega, for_range (lo := 0) (n := n) Pv h0 (fun i σ H hi p => ?_) hd⟩
  have e0 : (0 : Int) + (i : Int) = (i : Int) := Int.zero_add _
  rw [e0]
  exact hs i σ H hi p
def rLcR (g : TG) (tt : TT) (te : TE) (vs0 : List Nat) (σ : L2.St) (vs : List V) (H1 : Hp) (Q : VK) : Prop := ∃ j : Int, vs = [V.int j] ∧ -(2 ^ 62) ≤ j ∧ j < 2 ^ 62 ∧ ∀ D, H1 D = none → ∃ W : Nat → Nat → Hp → Prop, (∃ m, W 0 m (upd H1 D (.lst []))) ∧ ∀ i m H, W i m H →
  ((Itr 0 j.toNat).stop i H ∧ Q (.ref D) H) ∨ ((Itr 0 j.toNat).go i H ∧ ∃ Nx : Hp → Prop, (∀ H', Nx H' → ∃ m', m' < m ∧ W (i + 1) m' H') ∧ ∀ x H', (Itr 0 j.toNat).yld i H x H' → g x (wipe σ vs0) H' fun σ2 H2 => wipe σ2 vs0 = wipe σ vs0 ∧ tt σ2 H2 fun b H3 =>
    if b = true then te σ2 H3 fun y H4 => ∃ acc, H4 D = some (.lst acc) ∧ acc.length < sizeLine ∧ Nx (upd H4 D (.lst (acc ++ [y]))) else Nx H3)
theorem r_lcR {ta : TA} {g : TG} {tt : TT} {te : TE} {vs0 : List Nat} {σ : L2.St} {H : Hp} {Q : VK} (h : ta σ H fun vs H1 => rLcR g tt te vs0 σ vs H1 Q) : tLc (iRng1 ta) g tt te vs0 σ H Q := h
theorem r_lcRx {g : TG} {tt : TT} {te : TE} {vs0 : List Nat} {σ : L2.St} {H1 : Hp} {Q : VK} {j : Int} {n : Nat} (e : j = (n : Int)) (hb : n ≤ 1000) (Pv : Addr → Nat → Hp → Prop) (h0 : ∀ D, H1 D = none → Pv D 0 (upd H1 D (.lst [])))
    (hs : ∀ D, H1 D = none → ∀ (i : Nat) H, i < n → Pv D i H → g (.int (i : Int)) (wipe σ vs0) H fun σ2 H2 => wipe σ2 vs0 = wipe σ vs0 ∧ tt σ2 H2 fun b H3 =>
      if b = true then te σ2 H3 fun y H4 => ∃ acc, H4 D = some (.lst acc) ∧ acc.length < sizeLine ∧ Pv D (i + 1) (upd H4 D (.lst (acc ++ [y]))) else Pv D (i + 1) H3) (hd : ∀ D, H1 D = none → ∀ H, Pv D n H → Q (.ref D) H) : rLcR g tt te vs0 σ [.int j] H1 Q := by
  subst e
  refine ⟨_, rfl, by omega, by omega, fun D hD => lc_range (lo := 0) (n := n) (Pv D) (h0 D hD) (fun i H hi p => ?_) (hd D hD)⟩
  have e0 : (0 : Int) + (i : Int) = (i : Int) := Int.zero_add _
  rw [e0]
  exact hs D hD i H hi p
theorem r_setN {l : Addr} {k : Nat} {v : V} {xs : List V} {H : Hp} {R : Hp → Prop} (hp : H l = some (.lst xs)) (hk : k < xs.length) (q : R (upd H l (.lst (xs.set k v)))) : rSetL (.ref l) (.int (k : Int)) v H R := ⟨l, xs, _, k, rfl, rfl, hp, RD.ixN_nat hk, q⟩
end OWN


section
open PySem L2
/-! the steps of a reading, as rows of one key -/
local macro_rules | `(tactic| walk_at "set") => `(tactic| (repeat (first | exact RD.SetAt.zero | apply RD.SetAt.succ)))
local macro_rules | `(tactic| walk_at "ne") => `(tactic| first | assumption | exact Ne.symm (by assumption))
/-- what stands at an address -/
local macro_rules | `(tactic| walk_at "hp") => `(tactic| first
  | assumption
  | ((with_reducible show upd _ _ _ _ = some _); first | (with_reducible exact upd_same) | exact RD.upd_new (by assumption) (by walk_at "hp") | exact RD.upd_at (by walk_at "ne") (by walk_at "hp"))
  | exact RD.keep_all (by assumption) (by walk_at "hp")
  | exact RD.keep_at (by assumption) (by walk_at "ne") (by walk_at "hp")
  | exact RD.keep_ext (by assumption) (by walk_at "ne") (by walk_at "hp"))
local macro_rules | `(tactic| walk_at "sq") => `(tactic| first
  | assumption
  | exact SqL.of (by walk_at "hp")
  | exact SqT.of (by walk_at "hp"))
local macro_rules | `(tactic| walk_at "rd1") => `(tactic| first
  | (with_reducible refine RD.r_seq ?_)
  | (with_reducible refine RD.r_asg ?_)
  | (with_reducible refine RD.r_ifS ?_)
  | (with_reducible refine RD.r_ret ?_)
  | (with_reducible refine RD.r_retN ?_)
  | (with_reducible refine RD.r_drop ?_)
  | (with_reducible refine RD.r_next ?_)
  | ((with_reducible show gName _ _ _ _ _); refine RD.r_name (by walk_at "set") ?_)
  | (with_reducible refine RD.r_gsub ?_)
  | ((with_reducible show rSetL _ _ _ _ _); refine RD.r_setL (by walk_at "hp") (by exact rfl) (by walk_at "set") ?_)
  | ((with_reducible show tVar _ _ _ _); refine RD.r_var (by exact rfl) ?_)
  | (with_reducible refine RD.r_c ?_)
  | (with_reducible refine RD.r_op ?_)
  | (with_reducible refine RD.r_un ?_)
  | (with_reducible refine RD.r_rI0 ?_)
  | ((with_reducible show rI (fun _ j => 0 < j) _ _ _ _ _); refine RD.r_rI (by show (0 : Int) < _; omega) ?_)
  | ((with_reducible show rI CDiv _ _ _ _ _); refine RD.r_rI (by show (0 : Int) < _ ∧ _ < (1073741824 : Int); omega) ?_)
  | ((with_reducible show rI CPow _ _ _ _ _); refine RD.r_rI ⟨by decide, by decide, by decide⟩ ?_)
  | ((with_reducible show rI CMul _ _ _ _ _); refine RD.r_rI (by first | exact Or.inr ⟨by omega, by omega⟩ | exact Or.inl ⟨by omega, by omega⟩) ?_)
  | ((with_reducible show rI _ _ _ _ _ _); refine RD.r_rI (by assumption) ?_)
  | (with_reducible refine RD.r_rU ?_)
  | (with_reducible refine RD.r_eqI ?_)
  | (with_reducible refine RD.r_neI ?_)
  | (with_reducible refine RD.r_eqS ?_)
  | (with_reducible refine RD.r_neS ?_)
  | (with_reducible refine RD.r_test ?_)
  | (with_reducible refine RD.r_B ?_)
  | (with_reducible refine RD.r_bl ?_)
  | (with_reducible refine RD.r_and ?_)
  | (with_reducible refine RD.r_or ?_)
  | (with_reducible refine RD.r_not ?_)
  | (with_reducible refine RD.r_andV ?_)
  | (with_reducible refine RD.r_orV ?_)
  | (with_reducible refine RD.r_notV ?_)
  | (with_reducible refine RD.r_ifE ?_)
  | (with_reducible refine RD.r_chain ?_)
  | ((with_reducible show rIxL _ _ _ _ _); refine RD.r_ixL (by walk_at "sq") (by first | ((with_reducible refine RD.at_ints ?_ ?_) <;> first | omega | exact Int.emod_nonneg _ (by omega) | exact Int.emod_lt_of_pos _ (by omega)) | exact rfl) ?_)
  | ((with_reducible show rIxT _ _ _ _ _); refine RD.r_ixT (by walk_at "sq") (by first | ((with_reducible refine RD.at_ints ?_ ?_) <;> first | omega | exact Int.emod_nonneg _ (by omega) | exact Int.emod_lt_of_pos _ (by omega)) | exact rfl) ?_)
  | (with_reducible refine RD.r_tlstRg ?_)
  | ((with_reducible show RD.rLstRg _ _ _); refine RD.r_lstRg (by omega) (by omega) ?_; intro l hl)
  | ((with_reducible show rCat _ _ _ _); refine RD.r_cat (by walk_at "hp") (by walk_at "hp") (by first | decide | (simp [rgV_length]; done) | (simp [rgV_length]; omega)) ?_; intro l hl)
  | ((with_reducible show gTup _ _ _ _ _ _ _); refine RD.r_gtup (by walk_at "sq") (by exact rfl) ?_)
  | (with_reducible refine RD.r_gcons ?_)
  | (with_reducible refine RD.r_gnil ?_)
  | (with_reducible refine RD.r_forTe ?_)
  | (with_reducible refine RD.r_forLe ?_)
  | (with_reducible refine RD.r_tsl ?_)
  | (with_reducible refine RD.r_noPart ?_)
  | (with_reducible refine RD.r_tpart ?_)
  | (with_reducible refine RD.r_part ?_)
  | ((with_reducible show rSlA _ _ _ _ _ _); refine RD.r_slAny (by walk_at "hp") ?_; intro psl Hsl hesl hpsl)
  | (with_reducible refine RD.r_tcall ?_)
  | (with_reducible refine RD.r_tcallS ?_)
  | (with_reducible refine RD.r_tmake ?_)
  | (with_reducible refine RD.r_tbm ?_)
  | ((with_reducible show RD.rBM _ "list" _ _ _ _ _ _); refine RD.r_bmL (by walk_at "hp") ?_)
  | ((with_reducible show rEqD _ _ _ _ _); first | refine RD.r_eqTT (by walk_at "sq") (by walk_at "sq") ?_ | refine RD.r_eqLL (by walk_at "sq") (by walk_at "sq") ?_)
  | ((with_reducible show rNeD _ _ _ _ _); first | refine RD.r_neTT (by walk_at "sq") (by walk_at "sq") ?_ | refine RD.r_neLL (by walk_at "sq") (by walk_at "sq") ?_ | refine RD.r_neNil (by walk_at "sq") (by walk_at "sq") ?_)
  | (with_reducible refine RD.r_tfld ?_)
  | ((with_reducible show RD.rFld _ _ _ _ _); refine RD.r_fld (by walk_at "hp") (by assumption) (by assumption) (by walk_at "lk") ?_)
  | (with_reducible refine RD.r_sfld ?_)
  | ((with_reducible show RD.rSFld _ _ _ _ _ _); refine RD.r_sf (by walk_at "hp") (by assumption) (by assumption) (by walk_at "ln") (by walk_at "pf") ?_)
  | (with_reducible refine RD.r_tcval ?_)
  | ((with_reducible show RD.rCV _ _ _ _ _); refine RD.r_cv (by assumption) (by assumption) ?_)
  | (with_reducible refine RD.r_isiII ?_)
  | (with_reducible refine RD.r_isiIB ?_)
  | ((with_reducible show rIsi _ [V.ref _, V.ty "tuple"] _ _); refine RD.r_isiTT (by walk_at "hp") ?_)
  | (with_reducible refine OWN.r_topS ?_)
  | (with_reducible refine OWN.r_tmethW ?_)
  | ((with_reducible show OWN.rMethW _ _ _ _ _ _ _ _ _); refine OWN.r_methW (by walk_at "hp") (by walk_at "nolk") ?_)
  | (with_reducible refine OWN.r_tcmethW ?_)
  | (with_reducible refine OWN.r_cmethW ?_)
  | (with_reducible refine OWN.r_cbIsC ?_)
  | ((with_reducible show OWN.rIsC _ _ _ _); refine OWN.r_isC (by walk_at "hp") ?_)
  | (with_reducible refine RD.r_cbLen ?_)
  | (with_reducible refine RD.r_cbInt ?_)
  | (with_reducible refine RD.r_cbList ?_)
  | (with_reducible refine RD.r_cbTup ?_)
  | (with_reducible refine RD.r_cb ?_)
  | ((with_reducible show RD.rListOf _ _ _ _); refine RD.r_listOf (by first | exact Or.inl (by walk_at "sq") | exact Or.inr (by walk_at "sq")) ?_; intro l hl)
  | ((with_reducible show rAppend _ _ _ _); refine RD.r_app (by walk_at "hp") (by first | (simp; done) | (simp; omega)) ?_)
  | ((with_reducible show List.length _ ≤ sizeLine ∧ _); refine ⟨Nat.le_trans (m := 1000) (by first | decide | (simp; done) | (simp; omega)) (by decide), ?_⟩; intro l hl)
  | (with_reducible refine RD.r_nil ?_)
  | (with_reducible refine RD.r_cons ?_)
  | (with_reducible refine RD.r_tup ?_)
  | (with_reducible refine RD.r_lst ?_)
  | ((with_reducible show RD.rLen _ _ _ _); refine RD.r_len (by first | exact Or.inl (by walk_at "sq") | exact Or.inr (by walk_at "sq")) ?_)
  | (with_reducible refine RD.r_int1 ?_)
  | (with_reducible refine RD.r_intB ?_))
local macro_rules | `(tactic| walk_at "rd") => `(tactic| (repeat (walk_at "rd1")))
local macro_rules | `(tactic| walk_at "br") => `(tactic| first
  | (with_reducible refine iteT ?_)
  | (with_reducible refine iteF ?_)
  | (with_reducible refine RD.r_iteNF ?_)
  | (with_reducible refine RD.r_iteNT ?_)
  | ((with_reducible refine RD.r_yes ?_ ?_); (focus (first | assumption | omega | exact rfl | decide +kernel)))
  | ((with_reducible refine RD.r_no ?_ ?_); (focus (first | assumption | omega | exact rfl | decide +kernel)))
  | ((with_reducible refine RD.r_yesN ?_ ?_); (focus (first | assumption | omega | exact rfl | decide +kernel)))
  | ((with_reducible refine RD.r_noN ?_ ?_); (focus (first | assumption | omega | exact rfl | decide +kernel)))
  | (with_reducible refine RD.r_ite (fun hbr => ?_) (fun hbr => ?_))
  | (with_reducible refine RD.r_iteN (fun hbr => ?_) (fun hbr => ?_)))
local macro_rules | `(tactic| walk_at "go") => `(tactic| (repeat' (first | walk_at "rd1" | walk_at "br")))

namespace K2
open PySem L2
def top (i : Nat) : Stmt := PySem.Challenge.pw_twicewashed_k06_weigh_refuses.main.body.getD i (.Pass ⟨0, 0, 0, 0⟩)
structure TxB (mg : Str → Option Value) : Prop where
  list : mg "list" = none
  int : mg "int" = none
  len : mg "len" = none
  tuple : mg "tuple" = none
  bool : mg "bool" = none
  isinstance : mg "isinstance" = none
  range : mg "range" = none
/-! ### the pool -/
abbrev sPool : Stmt := top 20
abbrev sTake : Stmt := top 21
/-- the pool at p: its cells (a list of ints ns at c), place i, great number g, turn t -/
structure PoolAt (H : Hp) (p c : Addr) (ns : List Int) (n : Nat) : Prop where
  ex : ∃ i g t : Int, H p = some (.lst [.ref c, .int i, .int g, .int t]) ∧ 0 ≤ i ∧ 0 ≤ g ∧ 0 ≤ t ∧ t ≤ n
  cl : H c = some (.lst (ns.map V.int))
  ne : c ≠ p
def spPool (K : PySem.W.Frag) : Sp := fun vs H Q _ => ∃ (a : Addr) (ns : List Int), vs = [.ref a] ∧ SqL K H a (ns.map V.int) ∧
  ∀ (p c : Addr) (H' : Hp), H p = none → H c = none → PoolAt H' p c ns 0 → (∀ b o, H b = some o → H' b = some o) → Q (.ref p) H'
def spTake : Sp := fun vs H Q _ => ∃ (p c : Addr) (ns : List Int) (n : Nat) (m : Int), vs = [.ref p, .int m] ∧ PoolAt H p c ns n ∧ n ≤ 1000000 ∧ 1 ≤ m ∧ m ≤ 1000000 ∧ ns.length ≤ 1000 ∧
  ∀ (v : Int) (H' : Hp), 0 ≤ v → v < m → PoolAt H' p c ns (n + 1) → (∀ b, b ≠ p → H' b = H b) → Q (.int v) H'
theorem PoolAt.new {H : Hp} {p c l : Addr} {ns : List Int} {n : Nat} {o : HO} (h : PoolAt H p c ns n) (hl : H l = none) : PoolAt (upd H l o) p c ns n := by
  obtain ⟨⟨i, g, t, hp, r⟩, hc, ne⟩ := h
  exact ⟨⟨i, g, t, by rw [upd_ne (ne_of_none hp hl)]; exact hp, r⟩, by rw [upd_ne (ne_of_none hc hl)]; exact hc, ne⟩
theorem PoolAt.old {H : Hp} {p c l : Addr} {ns : List Int} {n : Nat} {o : HO} (h : PoolAt H p c ns n) (h1 : p ≠ l) (h2 : c ≠ l) : PoolAt (upd H l o) p c ns n := by
  obtain ⟨⟨i, g, t, hp, r⟩, hc, ne⟩ := h
  exact ⟨⟨i, g, t, by rw [upd_ne h1]; exact hp, r⟩, by rw [upd_ne h2]; exact hc, ne⟩
theorem PoolAt.ext {H H' : Hp} {p c : Addr} {ns : List Int} {n : Nat} (h : PoolAt H p c ns n) (k : ∀ b o, H b = some o → H' b = some o) : PoolAt H' p c ns n := by
  obtain ⟨⟨i, g, t, hp, r⟩, hc, ne⟩ := h
  exact ⟨⟨i, g, t, k _ _ hp, r⟩, k _ _ hc, ne⟩
theorem PoolAt.mono {H : Hp} {p c : Addr} {ns : List Int} {n m : Nat} (h : PoolAt H p c ns n) (k : n ≤ m) : PoolAt H p c ns m := by
  obtain ⟨⟨i, g, t, hp, r1, r2, r3, r4⟩, hc, ne⟩ := h
  exact ⟨⟨i, g, t, hp, r1, r2, r3, by omega⟩, hc, ne⟩
theorem PoolAt.at {H : Hp} {p c : Addr} {ns : List Int} {n : Nat} (h : PoolAt H p c ns n) : ∃ o, H p = some o := let ⟨⟨_, _, _, hp, _⟩, _, _⟩ := h; ⟨_, hp⟩
theorem PoolAt.ne_new {H : Hp} {p c l : Addr} {ns : List Int} {n : Nat} (h : PoolAt H p c ns n) (hl : H l = none) : l ≠ p ∧ l ≠ c := by
  obtain ⟨⟨i, g, t, hp, r⟩, hc, ne⟩ := h
  exact ⟨(ne_of_none hp hl).symm, (ne_of_none hc hl).symm⟩
theorem take_rd {H : Hp} {p c : Addr} {ns : List Int} {n : Nat} {m : Int} {Q : VK} {E : XK} (h : PoolAt H p c ns n) (h1 : n ≤ 1000000) (h2 : 1 ≤ m) (h3 : m ≤ 1000000) (h4 : ns.length ≤ 1000)
    (k : ∀ (v : Int) (H' : Hp), 0 ≤ v → v < m → PoolAt H' p c ns (n + 1) → (∀ b, b ≠ p → H' b = H b) → Q (.int v) H') : spTake ([.ref p, .int m] ++ []) H Q E :=
  ⟨p, c, ns, n, m, rfl, h, h1, h2, h3, h4, k⟩
local macro_rules | `(tactic| walk_at "pool") => `(tactic| first | assumption | exact PoolAt.new (by walk_at "pool") (by assumption) | exact PoolAt.old (by walk_at "pool") (by walk_at "ne") (by walk_at "ne") | exact PoolAt.ext (by walk_at "pool") (by assumption))
local macro_rules | `(tactic| walk_at "take") => `(tactic| ((with_reducible show spTake _ _ _ _); refine take_rd (by walk_at "pool") (by omega) (by omega) (by omega) (by omega) ?_; intro v H' hv0 hv1 hP hk))
local macro_rules | `(tactic| walk_at "go") => `(tactic| (repeat' (first | walk_at "rd1" | walk_at "br" | walk_at "take")))

section
variable {P : Program} {w : World} {K : PySem.W.Frag} {mg : Str → Option Value} {base : Heap}
theorem scPool : FnScope ["_law_script"] ["_law_script"] (defScope sPool) := ⟨rfl, rfl, rfl, by decide +kernel, rfl, by decide +kernel, by decide +kernel⟩
theorem ok_pool {f : Addr} {fd : FuncData} (F : Fun K "_law_pool" "_law_pool" sPool f fd) (T : TxB mg) : FnOk P w K mg base CX0 1 f fd ["_law_script"] (spPool K) := by
  refine F.ok scPool (fun vs H Q E h => ?_) (fun cdv A outer s H vs Q E hr h => ?_)
  · obtain ⟨a, ns, rfl, _⟩ := h
    rfl
  · obtain ⟨a, ns, rfl, hS, k⟩ := h
    refine ⟨_, pss_one (ps_ret (pe_lst (pa_cons (pe_callTy call_list_of (by rfl) T.list (by decide +kernel) (pa_cons (pv 0) pa_nil)) (pa_cons pe_int (pa_cons pe_int (pa_cons pe_int pa_nil)))))), ?_⟩
    refine ⟨_, rfl, a, _, rfl, .inl hS, fun c hc => ⟨by show 4 ≤ sizeLine; decide, fun p hp => ?_⟩⟩
    have hpc : c ≠ p := fun z => by rw [z, upd_same] at hp; cases hp
    have hp' : H p = none := by rw [upd_ne hpc.symm] at hp; exact hp
    refine k p c _ hp' hc ⟨⟨0, 0, 0, upd_same, by omega, by omega, by omega, by omega⟩, by rw [upd_ne hpc, upd_same], hpc⟩ fun b o e => ?_
    rw [upd_ne (ne_of_none e hp'), upd_ne (ne_of_none e hc)]
    exact e
theorem take_end {H H' : Hp} {p c : Addr} {ns : List Int} {n : Nat} {i g t : Int} (hp : H' p = some (.lst [.ref c, .int i, .int g, .int t])) (hi : 0 ≤ i) (hg : 0 ≤ g) (h0 : 0 ≤ t) (ht : t ≤ n) (hcp : c ≠ p) (hc : H c = some (.lst (ns.map V.int))) (k : ∀ b, b ≠ p → H' b = H b) : PoolAt H' p c ns n := ⟨⟨i, g, t, hp, hi, hg, h0, ht⟩, (k c hcp).trans hc, hcp⟩
theorem at_cells {ns : List Int} {i : Nat} (h : i < ns.length) : atI (ns.map V.int) (i : Int) = some (V.int ns[i]) := atI_nat (by rw [List.getElem?_map, List.getElem?_eq_getElem h]; rfl)
theorem scTake : FnScope ["_law_pool_here", "_law_size", "_law_cells", "_law_turn", "_law_digit", "_law_cell"] ["_law_pool_here", "_law_size"] (defScope sTake) := ⟨rfl, rfl, rfl, by decide +kernel, rfl, by decide +kernel, by decide +kernel⟩
theorem ok_take {f : Addr} {fd : FuncData} (F : Fun K "_law_take" "_law_take" sTake f fd) (T : TxB mg) : FnOk P w K mg base CX0 1 f fd ["_law_pool_here", "_law_size"] spTake := by
  refine F.ok scTake (fun vs H Q E h => ?_) (fun cdv A outer s H vs Q E hr h => ?_)
  · obtain ⟨p, c, ns, n, m, rfl, _⟩ := h
    rfl
  · obtain ⟨p, c, ns, n, m, rfl, ⟨⟨i, g, t, hp, hi0, hg0, ht0, ht⟩, hc, hcp⟩, hn, hm1, hm2, hl, k⟩ := h
    have nd := scTake.nd
    refine ⟨_, (pss_cons (ps_set (i := 2) nd rfl (Or.inl rfl) (pe_ix ix_list (pv 0) pe_int (fun _ _ => rfl)))
(pss_cons (ps_set (i := 3) nd rfl (Or.inl rfl) (pe_ix ix_list (pv 0) pe_int (fun _ _ => rfl)))
(pss_cons (ps_asg (pe_op op_add (pv 3) pe_int) (pg_sub (pv 0) pe_int set_list))
(pss_cons (ps_if (PW.pt (pw_and (pt_cmpR op_eq (pe_ix ix_list (pv 0) pe_int (fun _ _ => rfl)) pe_int (nomark _)) (pw_and (pt_cmpR op_lt (pe_ix ix_list (pv 0) pe_int (fun _ _ => rfl)) (pe_callB call_len_seq (by rfl) T.len PySem.boot_len (pa_cons (pv 2) pa_nil)) (nomark _)) (pw_and1 (pt_cmpR op_ge (pe_ix ix_list (pv 2) (pe_ix ix_list (pv 0) pe_int (fun _ _ => rfl)) (fun _ _ => rfl)) (pe_op op_pow pe_int pe_int) (nomark _))))))
(pss_cons (ps_asg (pe_ix ix_list (pv 2) (pe_ix ix_list (pv 0) pe_int (fun _ _ => rfl)) (fun _ _ => rfl)) (pg_sub (pv 0) pe_int set_list))
(pss_one (ps_asg (pe_op op_add (pe_ix ix_list (pv 0) pe_int (fun _ _ => rfl)) pe_int) (pg_sub (pv 0) pe_int set_list))))
pss_nil)
(pss_cons (ps_if (pt_cmpR op_gt (pe_ix ix_list (pv 0) pe_int (fun _ _ => rfl)) pe_int (nomark _))
(pss_cons (ps_set (i := 4) nd rfl (Or.inl rfl) (pe_op op_mod (pe_callTy call_int1 (by rfl) T.int (by decide +kernel) (pa_cons (pe_ix ix_list (pv 0) pe_int (fun _ _ => rfl)) pa_nil)) (pv 1)))
(pss_cons (ps_asg (pe_op op_fdiv (pe_callTy call_int1 (by rfl) T.int (by decide +kernel) (pa_cons (pe_ix ix_list (pv 0) pe_int (fun _ _ => rfl)) pa_nil)) (pv 1)) (pg_sub (pv 0) pe_int set_list))
(pss_one (ps_ret (pv 4)))))
pss_nil)
(pss_cons (ps_if (pt_cmpR op_eq (pe_callB call_len_seq (by rfl) T.len PySem.boot_len (pa_cons (pv 2) pa_nil)) pe_int (nomark _))
(pss_one (ps_ret (pe_op op_mod (pe_callTy call_int1 (by rfl) T.int (by decide +kernel) (pa_cons (pv 3) pa_nil)) (pv 1))))
pss_nil)
(pss_cons (ps_set (i := 5) nd rfl (Or.inl rfl) (pe_ix ix_list (pv 2) (pe_op op_mod (pe_callTy call_int1 (by rfl) T.int (by decide +kernel) (pa_cons (pe_ix ix_list (pv 0) pe_int (fun _ _ => rfl)) pa_nil)) (pe_callB call_len_seq (by rfl) T.len PySem.boot_len (pa_cons (pv 2) pa_nil))) (fun _ _ => rfl)))
(pss_cons (ps_asg (pe_op op_add (pe_ix ix_list (pv 0) pe_int (fun _ _ => rfl)) pe_int) (pg_sub (pv 0) pe_int set_list))
(pss_one (ps_ret (pe_op op_mod (pe_op op_mod (pe_callTy call_int1 (by rfl) T.int (by decide +kernel) (pa_cons (pe_op op_add (pe_op op_mul (pe_op op_mul (pe_op op_add (pv 5) pe_int) (pe_op op_add (pv 3) pe_int)) pe_int) (pe_op op_mul (pv 3) (pv 3))) pa_nil)) pe_int) (pv 1)))))))))))), ?_⟩
    refine RD.r_start (σ' := [some (.ref p), some (.int m), none, none, none, none]) rfl ?_
    dsimp only [cxOf, Cx.nox, Cx.wish]
    walk_at "rd"
    have hlm : (ns.map V.int).length = ns.length := List.length_map _
    have fin : ∀ (v : Int) (i' g' t' : Int) (H' : Hp), 0 ≤ v → v < m → H' p = some (.lst [.ref c, .int i', .int g', .int t']) → 0 ≤ i' → 0 ≤ g' → 0 ≤ t' → t' ≤ (n : Int) + 1 → (∀ b, b ≠ p → H' b = H b) → Q (.int v) H' := fun v i' g' t' H' h1 h2 h3 ha hb hc' h4 h5 =>
      k v H' h1 h2 (take_end h3 ha hb hc' (by omega) hcp hc h5) h5
    have hd0 : ∀ x : Int, 0 ≤ x → 0 ≤ x / m := fun x hx => Int.ediv_nonneg hx (by omega)
    have hpw : (0 : Int) ≤ 10 ^ (18 : Int).toNat := by decide
    walk_at "go"
    all_goals (refine fin _ _ _ _ _ (Int.emod_nonneg _ (by omega)) (Int.emod_lt_of_pos _ (by omega)) upd_same ?_ ?_ ?_ ?_ (fun b hb => by simp only [upd_ne hb]) <;> first | omega | (refine hd0 _ ?_; omega))
end

/-! ### Length -/
abbrev sLenInit : Stmt := inClass (top 8) 2
def lenF (c : Int) (q : Addr) : List (Str × V) := [("count", V.int c), ("powers", V.ref q)]
theorem kcp : ¬ (("count" : Str) = "powers") := by decide +kernel
theorem lenF_count {c : Int} {q : Addr} : (lenF c q).lookup ("count" : Str) = some (.int c) := by
  unfold lenF; simp [List.lookup]
theorem lenF_powers {c : Int} {q : Addr} : (lenF c q).lookup ("powers" : Str) = some (.ref q) := by
  have h : (("powers" : Str) == "count") = false := by decide +kernel
  unfold lenF; simp [List.lookup, h]
theorem lenF_put0 {c : Int} : putF "count" (.int c) [] = [(("count" : Str), V.int c)] := rfl
theorem lenF_put1 {c : Int} {q : Addr} : putF "powers" (.ref q) [(("count" : Str), V.int c)] = lenF c q := by
  show (if ("count" : Str) = "powers" then _ else (("count" : Str), V.int c) :: [(("powers" : Str), V.ref q)]) = _
  rw [if_neg kcp]; rfl
def okLen (c : Int) (ps : List Int) : Prop := (1 ≤ c ∧ c ≤ 1000000) ∧ (1 ≤ ps.length ∧ ps.length ≤ 4) ∧ ∀ p ∈ ps, 0 ≤ p ∧ p ≤ 2
structure LenAt (H : Hp) (C x : Addr) (c : Int) (ps : List Int) : Prop where
  ex : ∃ dx q : Addr, H x = some (.ins C dx (lenF c q)) ∧ H q = some (.tup (ps.map V.int))
theorem LenAt.new {H : Hp} {C x l : Addr} {c : Int} {ps : List Int} {o : HO} (h : LenAt H C x c ps) (hl : H l = none) : LenAt (upd H l o) C x c ps := by
  obtain ⟨dx, q, h1, h2⟩ := h
  exact ⟨dx, q, by rw [upd_ne (ne_of_none h1 hl)]; exact h1, by rw [upd_ne (ne_of_none h2 hl)]; exact h2⟩
theorem LenAt.ext {H H' : Hp} {C x : Addr} {c : Int} {ps : List Int} (h : LenAt H C x c ps) (k : ∀ b o, H b = some o → H' b = some o) : LenAt H' C x c ps := by
  obtain ⟨dx, q, h1, h2⟩ := h
  exact ⟨dx, q, k _ _ h1, k _ _ h2⟩
theorem LenAt.ext' {H H' : Hp} {C x D : Addr} {c : Int} {ps : List Int} (h : LenAt H C x c ps) (hD : H D = none) (k : ∀ b o, b ≠ D → H b = some o → H' b = some o) : LenAt H' C x c ps :=
  h.ext fun b o e => k b o (ne_of_none e hD) e
local macro_rules | `(tactic| walk_at "lk") => `(tactic| first | exact lenF_count | exact lenF_powers)
local macro_rules | `(tactic| walk_at "ln") => `(tactic| first | exact (by decide : (0 : Nat) < 1000) | exact (by decide : (1 : Nat) < 1000))
local macro_rules | `(tactic| walk_at "pf") => `(tactic| first | exact lenF_put0 | exact lenF_put1)
local macro_rules | `(tactic| walk_at "len") => `(tactic| first | assumption | exact LenAt.new (by walk_at "len") (by assumption) | exact LenAt.ext (by walk_at "len") (by assumption))

def spLenInit (C B : Addr) : Sp := fun vs H Q E => ∃ (x dx l : Addr) (c : Int) (ps : List Int), vs = [.ref x, .int c, .ref l] ∧ H x = some (.ins C dx []) ∧ (H l = some (.lst (ps.map V.int)) ∨ H l = some (.tup (ps.map V.int))) ∧ ps.length ≤ 1000 ∧
  (okLen c ps → ∀ H', LenAt H' C x c ps → (∀ b o, b ≠ x → H b = some o → H' b = some o) → Q .non H') ∧
  (¬ okLen c ps → ∀ H', (∀ b o, H b = some o → H' b = some o) → E (.ref B) none H')
structure TxErr (K : PySem.W.Frag) (mg : Str → Option Value) (nm : Str) (B : Addr) : Prop where
  x : PySem.W.excIn K B [.type "ValueError", .type "Exception", .type "BaseException", .type "object"] "ValueError.__new__" = true
  g : mg nm = some (.ref B)
  k : PySem.W.keepIn K (.ref B) = true
  b : PySem.W.subIn K (.ref B) (.type "BaseException") = some true
  t : PySem.W.typeIn K (.ref B) = some (.type "type")
structure TxLen (K : PySem.W.Frag) (mg : Str → Option Value) (C : Addr) (mc um ud : Value) : Prop where
  cl : Cls K C
  nc : NoAttr K C "count"
  np : NoAttr K C "powers"
  g : mg "Length" = some (.ref C)
  rd : ClX.CRead K C mc
  mo : ClX.CVal K C mc "MOST" (.int 1000000) um
  de : ClX.CVal K C mc "DEEP" (.int 2) ud
  ms : ∃ t, mg "MOST_SHARES" = some (.int 4 t)
section
variable {P : Program} {w : World} {K : PySem.W.Frag} {mg : Str → Option Value} {base : Heap}
theorem scLenInit : FnScope ["self", "count", "powers", "power"] ["self", "count", "powers"] (defScope sLenInit) := ⟨rfl, rfl, rfl, by decide +kernel, rfl, by decide +kernel, by decide +kernel⟩
theorem ok_lenInit {f C B : Addr} {mc um ud : Value} {fd : FuncData} (F : Fun K "__init__" "Length.__init__" sLenInit f fd) (T : TxB mg) (TL : TxLen K mg C mc um ud) (TE : TxErr K mg "BadLength" B) :
    FnOk P w K mg base (L2.CX P w) 1 f fd ["self", "count", "powers"] (spLenInit C B) := by
  refine F.okX scLenInit (fun vs H Q E h => ?_) (fun cdv A outer s H vs Q E hr h => ?_)
  · obtain ⟨x, dx, l, c, ps, rfl, _⟩ := h
    rfl
  · obtain ⟨x, dx, l, c, ps, rfl, hx, hl, hz, k1, k2⟩ := h
    have nd := scLenInit.nd
    obtain ⟨tms, hms⟩ := TL.ms
    have hcl := TL.cl
    have hnc := TL.nc
    have hnp := TL.np
    have hrd := TL.rd
    have hmo := TL.mo
    have hde := TL.de
    refine ⟨_, (pss_cons (ps_set (i := 2) nd rfl (Or.inl rfl) (pe_callTy call_tuple_of (by rfl) T.tuple (by decide +kernel) (pa_cons (pv 2) pa_nil)))
(pss_cons (ps_if (pt_not (pt_chain op_le op_le pe_int (pv 1) (ClX.pe_cval (pe_glob (v := .ref C) rfl TL.g rfl))))
(pss_one (ps_raise rfl (takes_of rfl rfl rfl rfl) (pmk_own PySem.F.excBase_ValueError TE.x TE.g TE.k (raises_own TE.b TE.t) (by rfl))))
pss_nil)
(pss_cons (ps_if (pt_not (pt_chain op_le op_le pe_int (pe_callB call_len_seq (by rfl) T.len PySem.boot_len (pa_cons (pv 2) pa_nil)) (pe_glob (v := .int 4) rfl hms ⟨_, rfl⟩)))
(pss_one (ps_raise rfl (takes_of rfl rfl rfl rfl) (pmk_own PySem.F.excBase_ValueError TE.x TE.g TE.k (raises_own TE.b TE.t) (by rfl))))
pss_nil)
(pss_cons (ps_for (passes_of rfl) rfl (pi_tup (pv 2)) (pg_name (i := 3) nd rfl (Or.inl rfl))
(pss_one (ps_if (pt_not (pt_chain op_le op_le pe_int (pv 3) (ClX.pe_cval (pe_glob (v := .ref C) rfl TL.g rfl))))
(pss_one (ps_raise rfl (takes_of rfl rfl rfl rfl) (pmk_own PySem.F.excBase_ValueError TE.x TE.g TE.k (raises_own TE.b TE.t) (by rfl))))
pss_nil)))
(pss_cons (ps_fld (pv 0) (pv 1) rfl)
(pss_one (ps_fld (pv 0) (pv 2) rfl))))))), ?_⟩
    refine RD.r_start (σ' := [some (.ref x), some (.int c), some (.ref l), none]) rfl ?_
    dsimp only [cxOf, Cx.nox, Cx.wish]
    have noE : ∀ H1, ¬ okLen c ps → (∀ b o, H b = some o → H1 b = some o) → E (.ref B) none H1 := fun H1 h e => k2 h H1 e
    walk_at "go"
    refine RD.r_tupAny hl fun q H1 hext hq => ?_
    have hlm : (ps.map V.int).length = ps.length := List.length_map _
    walk_at "go"
    all_goals first | (with_reducible show RD.rForT _ _ _ _ _ _ _) | (refine noE _ (fun h => ?_) hext; unfold okLen at h; omega)
    refine RD.r_forTx (SqT.of hq) (fun i σ H' => H' = H1 ∧ (∃ v, σ = [some (.ref x), some (.int c), some (.ref q), v]) ∧ ∀ (j : Nat) (h : j < ps.length), j < i → 0 ≤ ps[j] ∧ ps[j] ≤ 2)
      ⟨rfl, ⟨_, rfl⟩, fun j _ h => absurd h (Nat.not_lt_zero _)⟩ (fun i σ H' _ h => by rw [h.1]; exact SqT.of hq) ?_ ?_
    · rintro i y σ H' hi ⟨rfl, ⟨v, rfl⟩, hg⟩
      obtain ⟨z, hz, rfl⟩ : ∃ z, ps[i]? = some z ∧ y = V.int z := by
        rw [List.getElem?_map] at hi
        cases e : ps[i]? with
        | none => rw [e] at hi; cases hi
        | some z => rw [e] at hi; exact ⟨z, rfl, (Option.some.inj hi).symm⟩
      obtain ⟨hil, hiz⟩ := List.getElem?_eq_some_iff.mp hz
      have bad : ¬ (0 ≤ z ∧ z ≤ 2) → E (.ref B) none H' := fun h => noE _ (fun o => h (hiz ▸ o.2.2 _ (List.getElem_mem hil))) hext
      walk_at "go"
      all_goals first
        | exact bad (by omega)
        | (refine ⟨rfl, ⟨_, rfl⟩, fun j h hj => ?_⟩
           by_cases e : j = i
           · subst e; rw [hiz]; omega
           · exact hg j h (by omega))
    · rintro σ H' ⟨rfl, ⟨v, rfl⟩, hg⟩
      have hall : ∀ p ∈ ps, 0 ≤ p ∧ p ≤ 2 := fun p hp => by
        obtain ⟨j, h, e⟩ := List.getElem_of_mem hp
        rw [← e]; exact hg j h (by rw [hlm]; exact h)
      have hqx : q ≠ x := ne_of hq (hext _ _ hx) (by intro z; cases z)
      have hx1 := hext _ _ hx
      walk_at "go"
      refine k1 ⟨by omega, by omega, hall⟩ _ ⟨dx, q, upd_same, ?_⟩ fun b o hb e => ?_
      · walk_at "hp"
      · rw [upd_ne hb, upd_ne hb]; exact hext _ _ e
end

/-! ### the law's own length, and what is whole -/
abbrev sWhole : Stmt := top 22
abbrev sLLen : Stmt := top 25
def spWhole : Sp := fun vs H Q _ => ∃ i : Int, vs = [.int i] ∧ Q (.bl true) H
def spLLen : Sp := fun vs H Q _ => ∃ (p c : Addr) (ns : List Int) (n : Nat) (m : Int), vs = [.ref p, .int m] ∧ PoolAt H p c ns n ∧ n ≤ 1000 ∧ ns.length ≤ 1000 ∧ 1 ≤ m ∧ m ≤ 4 ∧
  ∀ (q tp : Addr) (cnt : Int) (pw : List Int) (H' : Hp), H' q = some (.tup [.int cnt, .ref tp]) → H' tp = some (.tup (pw.map V.int)) → (pw.length : Int) = m → okLen cnt pw → PoolAt H' p c ns (n + 9) → (∀ b o, b ≠ p → H b = some o → H' b = some o) → H q = none → H tp = none → Q (.ref q) H'
section
variable {P : Program} {w : World} {K : PySem.W.Frag} {mg : Str → Option Value} {base : Heap}
theorem scWhole : FnScope ["_law_x"] ["_law_x"] (defScope sWhole) := ⟨rfl, rfl, rfl, by decide +kernel, rfl, by decide +kernel, by decide +kernel⟩
theorem ok_whole {f : Addr} {fd : FuncData} (F : Fun K "_law_whole" "_law_whole" sWhole f fd) (T : TxB mg) : FnOk P w K mg base CX0 1 f fd ["_law_x"] spWhole := by
  refine F.ok scWhole (fun vs H Q E h => ?_) (fun cdv A outer s H vs Q E hr h => ?_)
  · obtain ⟨i, rfl, _⟩ := h
    rfl
  · obtain ⟨i, rfl, k⟩ := h
    refine ⟨_, (pss_one (ps_ret (pe_and (pe_callB call_isi (by rfl) T.isinstance (by decide +kernel) (pa_cons (pv 0) (pa_cons (pe_bltn (v := .ty "int") (by rfl) T.int PyProof.Rows.boot_int rfl) pa_nil))) (pe_one (pe_not (pe_callB call_isi (by rfl) T.isinstance (by decide +kernel) (pa_cons (pv 0) (pa_cons (pe_bltn (v := .ty "bool") (by rfl) T.bool PyProof.Rows.boot_bool rfl) pa_nil)))))))), ?_⟩
    refine RD.r_start (σ' := [some (.int i)]) rfl ?_
    dsimp only [cxOf, Cx.nox, Cx.wish]
    walk_at "go"
    exact k
theorem scLLen : FnScope ["_law_pool_here", "_law_many", "_law_count", "_law_size", "_law_powers", "_law_k"] ["_law_pool_here", "_law_many"] (defScope sLLen) := ⟨rfl, rfl, rfl, by decide +kernel, rfl, by decide +kernel, by decide +kernel⟩
theorem ok_llen {f fT : Addr} {fd fdT : FuncData} (F : Fun K "_law_length" "_law_length" sLLen f fd) (T : TxB mg) (GT : FnOk P w K mg base CX0 1 fT fdT ["_law_pool_here", "_law_size"] spTake) (mgT : mg "_law_take" = some (.ref fT)) (kT : PySem.W.keepIn K (.ref fT) = true) (bT : Binds K fdT ["_law_pool_here", "_law_size"] []) :
    FnOk P w K mg base CX0 2 f fd ["_law_pool_here", "_law_many"] spLLen := by
  refine F.ok scLLen (fun vs H Q E h => ?_) (fun cdv A outer s H vs Q E hr h => ?_)
  · obtain ⟨p, c, ns, n, m, rfl, _⟩ := h
    rfl
  · obtain ⟨p, c, ns, n, m, rfl, hP, hn, hnl, hm1, hm2, k⟩ := h
    have nd := scLLen.nd
    refine ⟨_, (pss_cons (ps_set (i := 2) nd rfl (Or.inl rfl) (pe_op op_add pe_int (pe_call GT hr (by rfl) mgT kT bT .nil pass0 (pa_cons (pv 0) (pa_cons pe_int pa_nil)))))
(pss_cons (ps_set (i := 3) nd rfl (Or.inl rfl) (pe_call GT hr (by rfl) mgT kT bT .nil pass0 (pa_cons (pv 0) (pa_cons pe_int pa_nil))))
(C8.pss_cut (ps_if (pt_cmpR op_eq (pv 3) pe_int (nomark _))
(pss_one (ps_set (i := 2) nd rfl (Or.inl rfl) (pe_op op_add pe_int (pe_call GT hr (by rfl) mgT kT bT .nil pass0 (pa_cons (pv 0) (pa_cons pe_int pa_nil))))))
pss_nil)
(C8.pss_cut (ps_if (pt_cmpR op_eq (pv 3) pe_int (nomark _))
(pss_one (ps_set (i := 2) nd rfl (Or.inl rfl) (pe_op op_add (pe_op op_add pe_int (pe_op op_mul (pe_call GT hr (by rfl) mgT kT bT .nil pass0 (pa_cons (pv 0) (pa_cons pe_int pa_nil))) pe_int)) (pe_call GT hr (by rfl) mgT kT bT .nil pass0 (pa_cons (pv 0) (pa_cons pe_int pa_nil))))))
pss_nil)
(pss_cons (ps_set (i := 4) nd rfl (Or.inl rfl) (pe_lst pa_nil))
(pss_cons (ps_for PassesOwn.never rfl (pi_range1 (by rfl) T.range (pa_cons (pv 1) pa_nil)) (pg_name (i := 5) nd rfl (Or.inl rfl))
(pss_one (ps_expr (pe_bm PySem.F.plainAttrs_list PySem.F.slot_list_append PySem.F.type_list_append mt_append (pv 4) (pa_cons (pe_call GT hr (by rfl) mgT kT bT .nil pass0 (pa_cons (pv 0) (pa_cons pe_int pa_nil))) pa_nil)))))
(pss_one (ps_ret (pe_tup (pa_cons (pv 2) (pa_cons (pe_callTy call_tuple_of (by rfl) T.tuple (by decide +kernel) (pa_cons (pv 4) pa_nil)) pa_nil))))))))))), ?_⟩
    refine RD.r_start (σ' := [some (.ref p), some (.int m), none, none, none, none]) rfl ?_
    dsimp only [cxOf, Cx.nox, Cx.wish]
    walk_at "go"
    refine ⟨fun σ' H' => ∃ cnt size : Int, σ' = [some (.ref p), some (.int m), some (.int cnt), some (.int size), none, none] ∧ 1 ≤ cnt ∧ cnt ≤ 1000000 ∧ PoolAt H' p c ns (n + 3) ∧ (∀ b o, b ≠ p → H b = some o → H' b = some o), ?_, ?_⟩
    · walk_at "go"
      all_goals exact ⟨_, _, rfl, by omega, by omega, PoolAt.mono (by walk_at "pool") (by omega), fun b o hb e => by walk_at "hp"⟩
    rintro σ1 H1 ⟨cnt1, size, rfl, hc1, hc2, hP1, hk1⟩
    refine ⟨fun σ' H' => ∃ cnt : Int, σ' = [some (.ref p), some (.int m), some (.int cnt), some (.int size), none, none] ∧ 1 ≤ cnt ∧ cnt ≤ 1000000 ∧ PoolAt H' p c ns (n + 5) ∧ (∀ b o, b ≠ p → H1 b = some o → H' b = some o), ?_, ?_⟩
    · walk_at "go"
      all_goals exact ⟨_, rfl, by omega, by omega, PoolAt.mono (by walk_at "pool") (by omega), fun b o hb e => by walk_at "hp"⟩
    rintro σ2 H2 ⟨cnt, rfl, hd1, hd2, hP2, hk2⟩
    walk_at "go"
    rename_i l hl
    obtain ⟨hlp, hlc⟩ := hP2.ne_new hl
    refine ⟨_, rfl, _, rfl, by omega, by omega, for_range (lo := 0) (n := m.toNat) (fun i σ H' => ∃ (v : Option V) (pw : List Int), σ = [some (.ref p), some (.int m), some (.int cnt), some (.int size), some (.ref l), v] ∧ H' l = some (.lst (pw.map V.int)) ∧ pw.length = i ∧ (∀ x ∈ pw, 0 ≤ x ∧ x ≤ 2) ∧
      PoolAt H' p c ns (n + 5 + i) ∧ (∀ b o, b ≠ p → H2 b = some o → H' b = some o)) ⟨none, [], rfl, upd_same, rfl, fun _ h => (by cases h), PoolAt.new hP2 hl, fun b o hb e => by walk_at "hp"⟩ ?_ ?_⟩
    · rintro i σ H' hi ⟨v, pw, rfl, hl', hpl, hpw, hP', hk'⟩
      walk_at "go"
      rename_i z H3 hz0 hz1 hP3 hk3
      refine ⟨_, pw ++ [z], rfl, by rw [upd_same, RD.map_app], by simp [hpl], fun x hx => ?_, PoolAt.mono (PoolAt.old hP3 hlp.symm hlc.symm) (by omega), fun b o hb e => ?_⟩
      · rcases List.mem_append.mp hx with h | h
        · exact hpw x h
        · rw [List.mem_singleton.mp h]; omega
      · rw [upd_ne (ne_of_none e hl), hk3 b hb]; exact hk' b o hb e
    · rintro σ H' ⟨v, pw, rfl, hl', hpl, hpw, hP', hk'⟩
      walk_at "go"
      refine RD.r_tupOfL (SqL.of hl') fun tp htp => ?_
      walk_at "go"
      rename_i q hq
      have hq' : H' q = none := by
        rw [upd_ne (fun z => by rw [z, upd_same] at hq; cases hq)] at hq; exact hq
      have hbk : ∀ b o, b ≠ p → H b = some o → H' b = some o := fun b o hb e => hk' b o hb (hk2 b o hb (hk1 b o hb e))
      have hqt : tp ≠ q := fun z => by rw [z, upd_same] at hq; cases hq
      have fr : ∀ b, H' b = none → H b = none := fun b hb => by
        cases e : H b with
        | none => rfl
        | some o =>
          by_cases hbp : b = p
          · subst hbp
            obtain ⟨o', ho'⟩ := hP'.at
            rw [ho'] at hb; cases hb
          · rw [hbk b o hbp e] at hb; cases hb
      refine k q tp cnt pw _ upd_same (by rw [upd_ne hqt, upd_same]) (by omega) ⟨⟨hd1, hd2⟩, ⟨by omega, by omega⟩, hpw⟩ (PoolAt.mono (PoolAt.new (PoolAt.new hP' htp) hq) (by omega)) (fun b o hb e => ?_) (fr _ hq') (fr _ htp)
      rw [upd_ne (ne_of_none (hbk b o hb e) hq'), upd_ne (ne_of_none (hbk b o hb e) htp)]
      exact hbk b o hb e
end

local macro_rules | `(tactic| walk_at "rd1") => `(tactic| ((with_reducible show spWhole _ _ _ _); refine ⟨_, rfl, ?_⟩))

/-! ### powers, products, signs -/
abbrev sPow : Stmt := top 16
abbrev sSign : Stmt := top 18
/-- far above every number that is met -/
def far : Nat := 2 ^ 400000
def spPow : Sp := fun vs H Q _ => ∃ B E : Nat, vs = [.int B, .int E] ∧ 1 ≤ B ∧ B ^ E < far ∧ Q (.int ((B ^ E : Nat) : Int)) H
def spSign : Sp := fun vs H Q _ => ∃ z : Int, vs = [.int z] ∧ Q (.int (if z < 0 then -1 else if 0 < z then 1 else 0)) H
theorem mulW_ok {a b : Nat} (ha : a < far) (hb : b < far) : CMulW (a : Int) (b : Int) := wide_mul (a := 400000) (b := 400000) (by rw [Int.natAbs_natCast]; exact ha) (by rw [Int.natAbs_natCast]; exact hb) (by decide) (by decide) (by decide)
theorem pow_step {b e r : Nat} (h : e % 2 = 1) : (r * b) * (b * b) ^ (e / 2) = r * b ^ e := by
  have e1 : b ^ e = b ^ (2 * (e / 2) + 1) := by congr 1; omega
  rw [e1, Nat.pow_succ, Nat.pow_mul, Nat.pow_two, Nat.mul_assoc, Nat.mul_comm b]
theorem pow_step0 {b e r : Nat} (h : ¬ e % 2 = 1) : r * (b * b) ^ (e / 2) = r * b ^ e := by
  have e1 : b ^ e = b ^ (2 * (e / 2)) := by congr 1; omega
  rw [e1, Nat.pow_mul, Nat.pow_two]
theorem le_pow_self {b e : Nat} (hb : 1 ≤ b) (he : 1 ≤ e) : b ≤ b ^ e := by
  have := Nat.pow_le_pow_right hb he
  rwa [Nat.pow_one] at this
def eOf : L2.St → Nat
  | [_, some (.int e), _] => e.toNat
  | _ => 0
section
variable {P : Program} {w : World} {K : PySem.W.Frag} {mg : Str → Option Value} {base : Heap}
theorem scSign : FnScope ["number"] ["number"] (defScope sSign) := ⟨rfl, rfl, rfl, by decide +kernel, rfl, by decide +kernel, by decide +kernel⟩
theorem ok_sign {f : Addr} {fd : FuncData} (F : Fun K "_sign" "_sign" sSign f fd) : FnOk P w K mg base CX0 1 f fd ["number"] spSign := by
  refine F.ok scSign (fun vs H Q E h => ?_) (fun cdv A outer s H vs Q E hr h => ?_)
  · obtain ⟨z, rfl, _⟩ := h
    rfl
  · obtain ⟨z, rfl, k⟩ := h
    refine ⟨_, (pss_cons (ps_if (pt_cmpR op_lt (pv 0) pe_int (nomark _))
(pss_one (ps_ret (pe_un un_neg pe_int)))
pss_nil)
(pss_one (ps_ret (pe_ifExp (pt_cmpR op_gt (pv 0) pe_int (nomark _)) pe_int pe_int)))), ?_⟩
    refine RD.r_start (σ' := [some (.int z)]) rfl ?_
    try dsimp only [cxOf, Cx.nox, Cx.wish]
    walk_at "go"
    · rename_i h1
      rw [if_pos h1] at k; exact k
    · rename_i h1 h2
      rw [if_neg h1, if_pos h2] at k; exact k
    · rename_i h1 h2
      rw [if_neg h1, if_neg h2] at k; exact k
theorem scPow : FnScope ["base", "exponent", "result"] ["base", "exponent"] (defScope sPow) := ⟨rfl, rfl, rfl, by decide +kernel, rfl, by decide +kernel, by decide +kernel⟩
theorem ok_pow {f : Addr} {fd : FuncData} (F : Fun K "_power" "_power" sPow f fd) : FnOk P w K mg base CX0 1 f fd ["base", "exponent"] spPow := by
  refine F.ok scPow (fun vs H Q E h => ?_) (fun cdv A outer s H vs Q E hr h => ?_)
  · obtain ⟨B, E, rfl, _⟩ := h
    rfl
  · obtain ⟨B, E, rfl, hB, hE, k⟩ := h
    have nd := scPow.nd
    refine ⟨_, (pss_cons (ps_set (i := 2) nd rfl (Or.inl rfl) pe_int)
(pss_cons (ps_while PassesOwn.never (pt_cmpR op_gt (pv 1) pe_int (nomark _))
(pss_cons (ps_if (pt_truth (pe_op op_odd (pv 1) pe_int) (by intro _; rfl))
(pss_one (ps_set (i := 2) nd rfl (Or.inl rfl) (pe_op op_mulW (pv 2) (pv 0))))
pss_nil)
(pss_cons (ps_set (i := 0) nd rfl (Or.inl rfl) (pe_op op_mulW (pv 0) (pv 0)))
(pss_one (ps_set (i := 1) nd rfl (Or.inl rfl) (pe_op op_halfN (pv 1) pe_int))))))
(pss_one (ps_ret (pv 2))))), ?_⟩
    refine RD.r_start (σ' := [some (.int B), some (.int E), none]) rfl ?_
    try dsimp only [cxOf, Cx.nox, Cx.wish]
    walk_at "go"
    refine while_by (fun σ H' => ∃ b e r : Nat, σ = [some (.int b), some (.int e), some (.int r)] ∧ H' = H ∧ 1 ≤ b ∧ 1 ≤ r ∧ r * b ^ e = B ^ E) (fun σ _ => eOf σ) ⟨B, E, 1, rfl, rfl, hB, Nat.le_refl _, Nat.one_mul _⟩ ?_ ?_
    · rintro σ H' ⟨b, e, r, rfl, rfl, hb, hr1, hp⟩
      walk_at "go"
      · rename_i he
        have he1 : 1 ≤ e := by omega
        have hbE : b < far := Nat.lt_of_le_of_lt (Nat.le_trans (le_pow_self hb he1) (Nat.le_trans (Nat.le_mul_of_pos_left _ hr1) (Nat.le_of_eq hp))) hE
        have hrE : r < far := Nat.lt_of_le_of_lt (Nat.le_trans (Nat.le_mul_of_pos_right _ (Nat.pow_pos hb)) (Nat.le_of_eq hp)) hE
        have m1 := mulW_ok hrE hbE
        have m2 := mulW_ok hbE hbE
        refine ⟨e, rfl, rfl, _, rfl, RD.r_iteB (fun h1 => ?_) (fun h1 => ?_)⟩
        · have h1' : e % 2 = 1 := by
            have : ((e % 2 : Nat) : Int) ≠ 0 := by simpa using h1
            omega
          walk_at "go"
          refine ⟨e, rfl, rfl, ?_⟩
          walk_at "go"
          refine ⟨⟨b * b, e / 2, r * b, by rw [Int.natCast_mul, Int.natCast_mul], rfl, Nat.mul_pos hb hb, Nat.mul_pos hr1 hb, (pow_step h1').trans hp⟩, ?_⟩
          show ((e / 2 : Nat) : Int).toNat < ((e : Nat) : Int).toNat
          omega
        · have h1' : ¬ e % 2 = 1 := by
            have : ((e % 2 : Nat) : Int) = 0 := by simpa using h1
            omega
          walk_at "go"
          refine ⟨e, rfl, rfl, ?_⟩
          walk_at "go"
          refine ⟨⟨b * b, e / 2, r, by rw [Int.natCast_mul], rfl, Nat.mul_pos hb hb, hr1, (pow_step0 h1').trans hp⟩, ?_⟩
          show ((e / 2 : Nat) : Int).toNat < ((e : Nat) : Int).toNat
          omega
      · rename_i he
        have he0 : e = 0 := by omega
        subst he0
        rw [Nat.pow_zero, Nat.mul_one] at hp
        rw [hp]
        exact k
    · rintro σ H' Q1 Q2 h ⟨v, hv, i, j, e1, e2, b, e3, q⟩
      exact ⟨v, hv, i, j, e1, e2, b, e3, h _ _ q⟩
end

/-! ### the product of a list -/
abbrev sMulr : Stmt := top 17
def prodN : List Nat → Nat
  | [] => 1
  | a :: l => a * prodN l
theorem prodN_app : ∀ l m : List Nat, prodN (l ++ m) = prodN l * prodN m
  | [], m => by rw [List.nil_append, prodN, Nat.one_mul]
  | a :: l, m => by rw [List.cons_append, prodN, prodN, prodN_app l m, Nat.mul_assoc]
theorem prodN_pos : ∀ l : List Nat, (∀ x ∈ l, 1 ≤ x) → 1 ≤ prodN l
  | [], _ => Nat.le_refl _
  | a :: l, h => Nat.mul_pos (h a (List.mem_cons_self ..)) (prodN_pos l fun x hx => h x (List.mem_cons_of_mem _ hx))
theorem mem_le_prodN : ∀ {l : List Nat} {x : Nat}, (∀ x ∈ l, 1 ≤ x) → x ∈ l → x ≤ prodN l
  | a :: l, x, h, hx => by
    have hp := prodN_pos l fun x hx => h x (List.mem_cons_of_mem _ hx)
    have ha := h a (List.mem_cons_self ..)
    rcases List.mem_cons.mp hx with e | hx
    · rw [e]; exact Nat.le_mul_of_pos_right _ hp
    · exact Nat.le_trans (mem_le_prodN (fun x hx => h x (List.mem_cons_of_mem _ hx)) hx) (Nat.le_mul_of_pos_left _ ha)
/-- the product of the j-th two -/
def two (ns : List Nat) (j : Nat) : Nat := ns.getD (2 * j) 1 * ns.getD (2 * j + 1) 1
def twos (ns : List Nat) (n : Nat) : List Nat := (List.range n).map (two ns)
def nI (l : List Nat) : List V := l.map fun n : Nat => V.int (n : Int)
theorem twos_succ (ns : List Nat) (n : Nat) : twos ns (n + 1) = twos ns n ++ [two ns n] := by
  unfold twos
  rw [List.range_succ, List.map_append]; rfl
theorem two_step {ns : List Nat} {n : Nat} (h : 2 * (n + 1) ≤ ns.length) : ns.drop (2 * n) = ns.getD (2 * n) 1 :: ns.getD (2 * n + 1) 1 :: ns.drop (2 * (n + 1)) := by
  have h1 : 2 * n < ns.length := by omega
  have h2 : 2 * n + 1 < ns.length := by omega
  rw [List.drop_eq_getElem_cons h1, List.drop_eq_getElem_cons h2]
  simp only [List.getD_eq_getElem?_getD, List.getElem?_eq_getElem h1, List.getElem?_eq_getElem h2, Option.getD_some]
  rfl
theorem twos_prod (ns : List Nat) : ∀ n, 2 * n ≤ ns.length → prodN (twos ns n) * prodN (ns.drop (2 * n)) = prodN ns
  | 0, _ => by simp [twos, prodN]
  | n + 1, h => by
    have ih := twos_prod ns n (by omega)
    rw [two_step h, prodN, prodN] at ih
    rw [twos_succ, prodN_app, prodN, prodN, Nat.mul_one, ← ih]
    unfold two
    simp only [Nat.mul_assoc]
theorem getD_mem {ns : List Nat} {i : Nat} (h : i < ns.length) : ns.getD i 1 ∈ ns := by
  rw [List.getD_eq_getElem?_getD, List.getElem?_eq_getElem h]; exact List.getElem_mem h
theorem atI_nI {ns : List Nat} {i : Nat} (h : i < ns.length) : atI (nI ns) (i : Int) = some (V.int ((ns.getD i 1 : Nat) : Int)) := by
  refine atI_nat ?_
  unfold nI
  rw [List.getElem?_map, List.getElem?_eq_getElem h, List.getD_eq_getElem?_getD, List.getElem?_eq_getElem h]; rfl
theorem nI_len (l : List Nat) : (nI l).length = l.length := List.length_map ..
theorem nI_app (l m : List Nat) : nI l ++ nI m = nI (l ++ m) := (List.map_append ..).symm
theorem nI_drop {l : List Nat} {n : Nat} (h : n ≤ l.length) : cutV (nI l) (some (n : Int)) none = nI (l.drop n) := by
  have e : nI l = (l.map (fun n : Nat => (n : Int))).map V.int := by simp [nI]
  rw [e, RD.cut_drop (by simpa using h)]
  simp only [nI, List.map_drop, List.map_map]
  rfl
/-- what one round leaves -/
def pairUp (ns : List Nat) : List Nat := twos ns (ns.length / 2) ++ ns.drop (2 * (ns.length / 2))
theorem pairUp_prod (ns : List Nat) : prodN (pairUp ns) = prodN ns := by
  unfold pairUp
  rw [prodN_app, twos_prod ns _ (by omega)]
theorem pairUp_len (ns : List Nat) : (pairUp ns).length = ns.length - ns.length / 2 := by
  unfold pairUp twos
  simp; omega
theorem pairUp_pos {ns : List Nat} (h : ∀ x ∈ ns, 1 ≤ x) : ∀ x ∈ pairUp ns, 1 ≤ x := by
  intro x hx
  rcases List.mem_append.mp hx with hx | hx
  · obtain ⟨j, hj, rfl⟩ := List.mem_map.mp hx
    have hj := List.mem_range.mp hj
    exact Nat.mul_pos (h _ (getD_mem (by omega))) (h _ (getD_mem (by omega)))
  · exact h x (List.mem_of_mem_drop hx)
theorem small_far {n : Nat} (h : n ≤ 1000) : n < far := Nat.lt_of_le_of_lt h (Nat.lt_of_lt_of_le (by decide : 1000 < 2 ^ 10) (Nat.pow_le_pow_right (by decide) (by decide)))
theorem ne_of_none' {H : Hp} {p q : Addr} {o : HO} (hp : H p = none) (hq : H q = some o) : p ≠ q := fun e => by rw [e, hq] at hp; cases hp
def spMulr : Sp := fun vs H Q _ => ∃ (a : Addr) (ns : List Nat), vs = [.ref a] ∧ H a = some (.lst (nI ns)) ∧ (∀ x ∈ ns, 1 ≤ x) ∧ 1 ≤ ns.length ∧ ns.length ≤ 100 ∧ prodN ns < far ∧
  ∀ H', (∀ b o, H b = some o → H' b = some o) → Q (.int (prodN ns : Nat)) H'
def lenOf : L2.St → Hp → Nat
  | some (.ref a) :: _, H => match H a with
    | some (.lst xs) => xs.length
    | _ => 0
  | _, _ => 0
theorem lenOf_eq {a : Addr} {xs : List V} {r : L2.St} {H : Hp} (h : H a = some (.lst xs)) : lenOf (some (.ref a) :: r) H = xs.length := by
  show (match H a with | some (.lst xs) => xs.length | _ => 0) = _
  rw [h]
section
variable {P : Program} {w : World} {K : PySem.W.Frag} {mg : Str → Option Value} {base : Heap}
theorem scMulr : FnScope ["factors", "paired", "pairs", "at"] ["factors"] (defScope sMulr) := ⟨rfl, rfl, rfl, by decide +kernel, rfl, by decide +kernel, by decide +kernel⟩
theorem ok_mulr {f : Addr} {fd : FuncData} (F : Fun K "_multiplied" "_multiplied" sMulr f fd) (T : TxB mg) : FnOk P w K mg base CX0 1 f fd ["factors"] spMulr := by
  refine F.ok scMulr (fun vs H Q E h => ?_) (fun cdv A outer s H vs Q E hr h => ?_)
  · obtain ⟨a, ns, rfl, _⟩ := h
    rfl
  · obtain ⟨a0, ns0, rfl, ha0, hpos0, h10, hle0, hfar, k⟩ := h
    have nd := scMulr.nd
    refine ⟨_, (pss_cons (ps_while PassesOwn.never (pt_cmpR op_gt (pe_callB call_len_seq (by rfl) T.len PySem.boot_len (pa_cons (pv 0) pa_nil)) pe_int (nomark _))
(pss_cons (ps_set (i := 1) nd rfl (Or.inl rfl) (pe_op op_mulW (pe_op op_fdiv (pe_callB call_len_seq (by rfl) T.len PySem.boot_len (pa_cons (pv 0) pa_nil)) pe_int) pe_int))
(pss_cons (ps_setLc (i := 2) (own := [("at", 3)]) (g := gName 3) (tt := tYes) rfl nd rfl rfl (sw_true rfl rfl rfl (by decide +kernel)) (pi_range3 (by rfl) T.range (pa_cons pe_int (pa_cons (pv 1) (pa_cons pe_int pa_nil)))) (blkOk_by (N := ["factors", "paired", "pairs", "at"]) (sc := defScope sMulr) (by decide +kernel)) (fun _ _ _ _ _ => pg_name (i := 3) nd rfl (Or.inl rfl)) (fun _ _ _ _ _ => pts_nil) (fun _ _ _ _ _ => (pe_op op_mulW (pe_ix (show IxR _ (rIxL K) from ix_list) (pv 0) (pv 3) (fun _ _ => rfl)) (pe_ix (show IxR _ (rIxL K) from ix_list) (pv 0) (pe_op op_add (pv 3) pe_int) (fun _ _ => rfl)))))
(pss_one (ps_set (i := 0) nd rfl (Or.inr rfl) (pe_op op_cat (pv 2) (pe_slice sl_list (pv 0) (po_some (pv 1)) po_none)))))))
(pss_one (ps_ret (pe_ix ix_list (pv 0) pe_int (fun _ _ => rfl))))), ?_⟩
    refine RD.r_start (σ' := [some (.ref a0), none, none, none]) rfl ?_
    try dsimp only [cxOf, Cx.nox, Cx.wish]
    walk_at "go"
    refine while_by (fun σ H' => ∃ (a : Addr) (ns : List Nat) (x y z : Option V), σ = [some (.ref a), x, y, z] ∧ H' a = some (.lst (nI ns)) ∧ (∀ x ∈ ns, 1 ≤ x) ∧ 1 ≤ ns.length ∧ ns.length ≤ 100 ∧ prodN ns = prodN ns0 ∧ ∀ b o, H b = some o → H' b = some o) (fun σ H' => lenOf σ H') ⟨a0, ns0, _, _, _, rfl, ha0, hpos0, h10, hle0, rfl, fun _ _ e => e⟩ ?_ ?_
    · rintro σ H1 ⟨a, ns, x, y, z, rfl, ha, hpos, h1, hle, hp, hk⟩
      walk_at "go"
      · obtain ⟨n, hn⟩ : ∃ n, n = ns.length / 2 := ⟨_, rfl⟩
        have e0 : ((nI ns).length : Int) / 2 = (n : Int) := by rw [nI_len, hn]; rfl
        rw [e0]
        refine RD.r_rI (mulW_ok (a := n) (b := 2) (small_far (by omega)) (small_far (by decide))) ?_
        dsimp only
        rw [Int.mul_comm (n : Int) 2]
        walk_at "go"
        refine ⟨_, rfl, 0, _, 2, n, rfl, OWN.rgc_two (by omega), fun D hD => OWN.lc_rangeC (n := n) (fun i H' => H' D = some (.lst (nI (twos ns i))) ∧ ∀ b o, b ≠ D → H1 b = some o → H' b = some o)
          ⟨upd_same, fun b o hb e => by rw [upd_ne hb]; exact e⟩ ?_ ?_⟩
        · rintro i HG hi ⟨hg1, hg2⟩
          have hga : HG a = some (.lst (nI ns)) := hg2 a _ (ne_of_none ha hD) ha
          have ei : (0 : Int) + ((i : Nat) : Int) * 2 = ((2 * i : Nat) : Int) := by omega
          have l1 : 2 * i < ns.length := by omega
          have l2 : 2 * i + 1 < ns.length := by omega
          have a1 := atI_nI l1
          have a2 := atI_nI l2
          rw [Int.natCast_succ] at a2
          have b1 : ns.getD (2 * i) 1 < far := Nat.lt_of_le_of_lt (Nat.le_trans (mem_le_prodN hpos (getD_mem l1)) (Nat.le_of_eq hp)) hfar
          have b2 : ns.getD (2 * i + 1) 1 < far := Nat.lt_of_le_of_lt (Nat.le_trans (mem_le_prodN hpos (getD_mem l2)) (Nat.le_of_eq hp)) hfar
          rw [ei]
          refine ⟨rfl, ?_⟩
          refine RD.r_tyes ?_
          refine iteT ?_
          walk_at "go"
          refine RD.r_ixL (SqL.of hga) a1 ?_
          walk_at "go"
          refine RD.r_ixL (SqL.of hga) a2 ?_
          refine RD.r_rI (mulW_ok b1 b2) ?_
          refine ⟨_, hg1, by rw [nI_len]; unfold twos; rw [List.length_map, List.length_range]; exact small1000 (by omega), ?_, fun b o hb e => by rw [upd_ne hb]; exact hg2 b o hb e⟩
          rw [upd_same, twos_succ, ← nI_app]
          rfl
        · rintro HG ⟨hg1, hg2⟩
          have hga : HG a = some (.lst (nI ns)) := hg2 a _ (ne_of_none ha hD) ha
          walk_at "go"
          refine OWN.r_slL hga fun p hp' => ?_
          have e3 : (2 * (n : Int)) = ((2 * n : Nat) : Int) := by omega
          rw [e3, nI_drop (by omega)]
          have hpD : p ≠ D := ne_of_none' hp' hg1
          refine RD.r_cat (RD.upd_new hp' hg1) upd_same (by rw [nI_len, nI_len]; unfold twos; simp; omega) fun q hq => ?_
          walk_at "go"
          rw [nI_app]
          have eP : twos ns n ++ ns.drop (2 * n) = pairUp ns := by rw [hn]; rfl
          rw [eP]
          have hq' : HG q = none := by
            by_cases z : q = p
            · subst z; exact hp'
            · rwa [upd_ne z] at hq
          refine ⟨⟨q, pairUp ns, _, _, _, rfl, upd_same, pairUp_pos hpos, by rw [pairUp_len]; omega, by rw [pairUp_len]; omega, (pairUp_prod ns).trans hp, fun b o e => ?_⟩, ?_⟩
          · have g1 := hk b o e
            have g2 : HG b = some o := hg2 b o (ne_of_none g1 hD) g1
            rw [upd_ne (ne_of_none (RD.upd_new hp' g2) hq), upd_ne (ne_of_none g2 hp')]
            exact g2
          · rw [lenOf_eq upd_same, lenOf_eq ha, nI_len, nI_len, pairUp_len]
            have : 1 < (nI ns).length := by omega
            rw [nI_len] at this
            omega
      · rename_i hn
        have h1' : ns.length = 1 := by rw [nI_len] at hn; omega
        obtain ⟨m, rfl⟩ := List.length_eq_one_iff.mp h1'
        rw [prodN, prodN, Nat.mul_one] at hp
        walk_at "go"
        rw [hp]
        exact k _ hk
    · rintro σ H' Q1 Q2 h ⟨v, hv, p, ys, e0, hs, i, j, e1, e2, b, e3, q⟩
      exact ⟨v, hv, p, ys, e0, hs, i, j, e1, e2, b, e3, h _ _ q⟩
end

/-! ### rough bounds of a product -/
abbrev sBnd : Stmt := top 15
def bitsN (x : Nat) : Nat := Builtin.Int.intBits (x : Int)
theorem bits_le {x m : Nat} : bitsN x ≤ m ↔ x < 2 ^ m := by
  unfold bitsN
  rw [PySem.intBits_le_iff, Int.natAbs_natCast]
def dr (x : Nat) : Nat := bitsN x - 256
def kp (x : Nat) : Nat := x / 2 ^ dr x
def kpU (x : Nat) : Nat := if dr x = 0 then kp x else kp x + 1
theorem lt_bits (x : Nat) : x < 2 ^ bitsN x := bits_le.mp (Nat.le_refl _)
theorem kp_lt (x : Nat) : kp x < 2 ^ 256 := by
  unfold kp
  refine Nat.div_lt_of_lt_mul ?_
  rw [← Nat.pow_add]
  exact Nat.lt_of_lt_of_le (lt_bits x) (Nat.pow_le_pow_right (by decide) (by unfold dr; omega))
theorem kp_pos {x : Nat} (h : 1 ≤ x) : 1 ≤ kp x := by
  unfold kp
  refine Nat.div_pos ?_ (Nat.pow_pos (by decide))
  by_cases h0 : dr x = 0
  · rw [h0]; exact h
  · refine Nat.le_of_not_lt fun hl => ?_
    have := bits_le.mpr hl
    unfold dr at *
    omega
theorem kpU_pos {x : Nat} (h : 1 ≤ x) : 1 ≤ kpU x := by
  have := kp_pos h
  unfold kpU; split <;> omega
theorem kpU_le (x : Nat) : kpU x ≤ 2 ^ 256 := by
  have := kp_lt x
  unfold kpU; split <;> omega
theorem kp_below (x : Nat) : kp x * 2 ^ dr x ≤ x := Nat.div_mul_le_self ..
theorem kpU_above (x : Nat) : x ≤ kpU x * 2 ^ dr x := by
  unfold kpU
  split
  · rename_i h
    unfold kp
    rw [h]; simp
  · unfold kp
    rw [Nat.add_mul, Nat.one_mul]
    exact Nat.le_of_lt (Nat.lt_div_mul_add (Nat.pow_pos (by decide)))
def sumD : List Nat → Nat
  | [] => 0
  | x :: l => dr x + sumD l
theorem sumD_app : ∀ l m : List Nat, sumD (l ++ m) = sumD l + sumD m
  | [], m => by rw [List.nil_append, sumD, Nat.zero_add]
  | a :: l, m => by rw [List.cons_append, sumD, sumD, sumD_app l m, Nat.add_assoc]
theorem low_ok : ∀ l : List Nat, prodN (l.map kp) * 2 ^ sumD l ≤ prodN l
  | [] => by simp [prodN, sumD]
  | x :: l => by
    rw [List.map_cons, prodN, prodN, sumD, Nat.pow_add]
    have h1 := kp_below x
    have h2 := low_ok l
    have e : kp x * prodN (l.map kp) * (2 ^ dr x * 2 ^ sumD l) = (kp x * 2 ^ dr x) * (prodN (l.map kp) * 2 ^ sumD l) := by
      simp only [Nat.mul_assoc, Nat.mul_left_comm, Nat.mul_comm]
    rw [e]
    exact Nat.mul_le_mul h1 h2
theorem high_ok : ∀ l : List Nat, prodN l ≤ prodN (l.map kpU) * 2 ^ sumD l
  | [] => by simp [prodN, sumD]
  | x :: l => by
    rw [List.map_cons, prodN, prodN, sumD, Nat.pow_add]
    have h1 := kpU_above x
    have h2 := high_ok l
    have e : kpU x * prodN (l.map kpU) * (2 ^ dr x * 2 ^ sumD l) = (kpU x * 2 ^ dr x) * (prodN (l.map kpU) * 2 ^ sumD l) := by
      simp only [Nat.mul_assoc, Nat.mul_left_comm, Nat.mul_comm]
    rw [e]
    exact Nat.mul_le_mul h1 h2
theorem prodN_le : ∀ (l : List Nat) (B : Nat), (∀ x ∈ l, x ≤ B) → prodN l ≤ B ^ l.length
  | [], _, _ => Nat.le_refl _
  | x :: l, B, h => by
    rw [prodN, List.length_cons, Nat.pow_succ, Nat.mul_comm]
    exact Nat.mul_le_mul (prodN_le l B fun x hx => h x (List.mem_cons_of_mem _ hx)) (h x (List.mem_cons_self ..))
theorem few_bits {l : List Nat} (h : ∀ x ∈ l, x ≤ 2 ^ 256) (hl : l.length ≤ 100) : prodN l < 2 ^ 25601 := by
  have h1 := prodN_le l _ h
  have h2 : (2 ^ 256) ^ l.length ≤ 2 ^ 25600 := by
    rw [← Nat.pow_mul]
    exact Nat.pow_le_pow_right (by decide) (by omega)
  exact Nat.lt_of_le_of_lt (Nat.le_trans h1 h2) (Nat.pow_lt_pow_right (by decide) (by decide))
theorem few_far {n : Nat} (h : n < 2 ^ 25601) : n < far := Nat.lt_of_lt_of_le h (Nat.pow_le_pow_right (by decide) (by decide))
theorem dr_le {x : Nat} (h : x < far) : dr x ≤ 400000 := by
  have := bits_le.mpr (show x < 2 ^ 400000 from h)
  unfold dr; omega
theorem sumD_le : ∀ (l : List Nat), (∀ x ∈ l, x < far) → sumD l ≤ l.length * 400000
  | [], _ => Nat.le_refl _
  | x :: l, h => by
    have h1 := dr_le (h x (List.mem_cons_self ..))
    have h2 := sumD_le l fun x hx => h x (List.mem_cons_of_mem _ hx)
    rw [sumD, List.length_cons]; omega
theorem take_next {ns : List Nat} {i : Nat} {x : Nat} (h : ns[i]? = some x) : ns.take (i + 1) = ns.take i ++ [x] := by
  rw [List.take_succ, h]; rfl
theorem nI_get {ns : List Nat} {i : Nat} {v : V} (h : (nI ns)[i]? = some v) : ∃ n, ns[i]? = some n ∧ v = .int (n : Nat) := by
  unfold nI at h
  rw [List.getElem?_map, Option.map_eq_some_iff] at h
  obtain ⟨n, h1, h2⟩ := h
  exact ⟨n, h1, h2.symm⟩
theorem dr_max {n : Nat} : (if ((Builtin.Int.intBits (n : Int) : Nat) : Int) - 256 > 0 then ((Builtin.Int.intBits (n : Int) : Nat) : Int) - 256 else 0) = ((dr n : Nat) : Int) := by
  unfold dr bitsN
  split <;> omega
theorem kp_div {n : Nat} : (n : Int) / 2 ^ ((dr n : Nat) : Int).toNat = ((kp n : Nat) : Int) := by
  unfold kp
  rw [Int.toNat_natCast, Int.natCast_ediv, Int.natCast_pow]; rfl
theorem shl_nat {a d : Nat} : ((a : Nat) : Int) * 2 ^ ((d : Nat) : Int).toNat = ((a * 2 ^ d : Nat) : Int) := by
  rw [Int.toNat_natCast, Int.natCast_mul, Int.natCast_pow]; rfl
structure TxW (mg : Str → Option Value) : Prop where
  max : mg "max" = none
  zip : mg "zip" = none
def spBnd : Sp := fun vs H Q _ => ∃ (a : Addr) (ns : List Nat), vs = [.ref a] ∧ H a = some (.lst (nI ns)) ∧ (∀ x ∈ ns, 1 ≤ x) ∧ (∀ x ∈ ns, x < far) ∧ 1 ≤ ns.length ∧ ns.length ≤ 100 ∧
  ∀ (p : Addr) (lo hi : Nat) (H' : Hp), (∀ b o, H b = some o → H' b = some o) → H' p = some (.tup [.int lo, .int hi]) → lo ≤ prodN ns → prodN ns ≤ hi → Q (.ref p) H'
section
variable {P : Program} {w : World} {K : PySem.W.Frag} {mg : Str → Option Value} {base : Heap}
theorem scBnd : FnScope ["factors", "least", "most", "shift", "factor", "dropped", "kept"] ["factors"] (defScope sBnd) := ⟨rfl, rfl, rfl, by decide +kernel, rfl, by decide +kernel, by decide +kernel⟩
theorem ok_bnd {f fM : Addr} {fd fdM : FuncData} (F : Fun K "_bounds" "_bounds" sBnd f fd) (T : TxB mg) (T2 : TxW mg) {tkb : Tok} (hkb : mg "KEPT_BITS" = some (.int 256 tkb)) (GM : FnOk P w K mg base CX0 1 fM fdM ["factors"] spMulr) (mgM : mg "_multiplied" = some (.ref fM)) (kM : PySem.W.keepIn K (.ref fM) = true) (bM : Binds K fdM ["factors"] []) :
    FnOk P w K mg base CX0 2 f fd ["factors"] spBnd := by
  refine F.ok scBnd (fun vs H Q E h => ?_) (fun cdv A outer s H vs Q E hr h => ?_)
  · obtain ⟨a, ns, rfl, _⟩ := h
    rfl
  · obtain ⟨a, ns, rfl, ha, hpos, hfar, h1, hle, k⟩ := h
    have nd := scBnd.nd
    refine ⟨_, (pss_cons (ps_set (i := 1) nd rfl (Or.inl rfl) (pe_lst pa_nil))
(pss_cons (ps_set (i := 2) nd rfl (Or.inl rfl) (pe_lst pa_nil))
(pss_cons (ps_set (i := 3) nd rfl (Or.inl rfl) pe_int)
(pss_cons (ps_for PassesOwn.never rfl (pi_list (pv 0)) (pg_name (i := 4) nd rfl (Or.inl rfl))
(pss_cons (ps_set (i := 5) nd rfl (Or.inl rfl) (pe_callB (call_max2 rfl) (by rfl) T2.max (by decide +kernel) (pa_cons pe_int (pa_cons (pe_op op_sub (pe_bits (pv 4)) (pe_glob (v := .int 256) rfl hkb ⟨_, rfl⟩)) pa_nil))))
(pss_cons (ps_set (i := 6) nd rfl (Or.inl rfl) (pe_op op_shr (pv 4) (pv 5)))
(pss_cons (ps_expr (pe_bm PySem.F.plainAttrs_list PySem.F.slot_list_append PySem.F.type_list_append mt_append (pv 1) (pa_cons (pv 6) pa_nil)))
(pss_cons (ps_expr (pe_bm PySem.F.plainAttrs_list PySem.F.slot_list_append PySem.F.type_list_append mt_append (pv 2) (pa_cons (pe_ifExp (pt_truth (pv 5) (by intro _; rfl)) (pe_op op_add (pv 6) pe_int) (pv 6)) pa_nil)))
(pss_one (ps_set (i := 3) nd rfl (Or.inl rfl) (pe_op op_add (pv 3) (pv 5)))))))))
(pss_one (ps_ret (pe_tup (pa_cons (pe_op op_shlW (pe_call GM hr (by rfl) mgM kM bM .nil pass0 (pa_cons (pv 1) pa_nil)) (pv 3)) (pa_cons (pe_op op_shlW (pe_call GM hr (by rfl) mgM kM bM .nil pass0 (pa_cons (pv 2) pa_nil)) (pv 3)) pa_nil))))))))), ?_⟩
    refine RD.r_start (σ' := [some (.ref a), none, none, none, none, none, none]) rfl ?_
    try dsimp only [cxOf, Cx.nox, Cx.wish]
    walk_at "go"
    rename_i L hL M hM
    have nML : M ≠ L := fun e => by rw [e, upd_same] at hM; cases hM
    have hM' : H M = none := by rwa [upd_ne nML] at hM
    refine RD.r_forLx (xs := nI ns) (SqL.of (RD.upd_new hM (RD.upd_new hL ha))) (fun i σ H' => ∃ x y z, σ = [some (.ref a), some (.ref L), some (.ref M), some (.int (sumD (ns.take i) : Nat)), x, y, z] ∧ H' L = some (.lst (nI ((ns.take i).map kp))) ∧ H' M = some (.lst (nI ((ns.take i).map kpU))) ∧ ∀ b o, H b = some o → H' b = some o) ?_ ?_ ?_ ?_
    · exact ⟨_, _, _, rfl, by rw [upd_ne nML.symm]; exact upd_same, upd_same, fun b o e => RD.upd_new hM (RD.upd_new hL e)⟩
    · rintro i σ H1 _ ⟨x, y, z, rfl, hL1, hM1, hk⟩
      exact SqL.of (hk _ _ ha)
    · rintro i v σ H1 hv ⟨x, y, z, rfl, hL1, hM1, hk⟩
      obtain ⟨n, hn, rfl⟩ := nI_get hv
      have hil : i < ns.length := (List.getElem?_eq_some_iff.mp hn).1
      walk_at "go"
      refine OWN.r_bits ?_
      walk_at "go"
      refine ⟨_, rfl, ?_⟩
      walk_at "go"
      refine ⟨_, _, rfl, ?_⟩
      rw [dr_max]
      walk_at "go"
      refine RD.r_rI (Int.natCast_nonneg _) ?_
      rw [kp_div]
      walk_at "go"
      refine RD.r_app hL1 (by rw [nI_len, List.length_map]; exact Nat.le_trans (List.length_take_le ..) (by omega)) ?_
      walk_at "go"
      have hM2 : upd H1 L (.lst (nI ((ns.take i).map kp) ++ [V.int (kp n : Nat)])) M = some (.lst (nI ((ns.take i).map kpU))) := by rw [upd_ne nML]; exact hM1
      have fin : ∀ t : Int, t = ((kpU n : Nat) : Int) → ∀ (x y z : Option V) (st : L2.St) (H9 : Hp), st = [some (.ref a), some (.ref L), some (.ref M), some (.int ((sumD (ns.take i) : Nat) + ((dr n : Nat) : Int))), x, y, z] → H9 = upd (upd H1 L (.lst (nI ((ns.take i).map kp) ++ [V.int (kp n : Nat)]))) M (.lst (nI ((ns.take i).map kpU) ++ [V.int t])) → ∃ x y z, st = [some (.ref a), some (.ref L), some (.ref M), some (.int (sumD (ns.take (i + 1)) : Nat)), x, y, z] ∧ H9 L = some (.lst (nI ((ns.take (i + 1)).map kp))) ∧ H9 M = some (.lst (nI ((ns.take (i + 1)).map kpU))) ∧ ∀ b o, H b = some o → H9 b = some o := by
        rintro t rfl x y z st H9 rfl rfl
        have e1 : (((sumD (ns.take i) : Nat) : Int) + ((dr n : Nat) : Int)) = ((sumD (ns.take (i + 1)) : Nat) : Int) := by
          rw [take_next hn, sumD_app, sumD, sumD]; omega
        refine ⟨x, y, z, by rw [e1], ?_, ?_, fun b o e => ?_⟩
        · rw [upd_ne nML.symm, upd_same, take_next hn, List.map_append, ← nI_app]; rfl
        · rw [upd_same, take_next hn, List.map_append, ← nI_app]; rfl
        · rw [upd_ne (ne_of_none e hM'), upd_ne (ne_of_none e hL)]; exact hk b o e
      refine ⟨_, rfl, RD.r_iteB (fun h => ?_) (fun h => ?_)⟩
      · have h0 : dr n ≠ 0 := by simpa using h
        walk_at "go"
        refine RD.r_app hM2 (by rw [nI_len, List.length_map]; exact Nat.le_trans (List.length_take_le ..) (by omega)) ?_
        walk_at "go"
        exact fin _ (by unfold kpU; rw [if_neg h0]; omega) _ _ _ _ _ rfl rfl
      · have h0 : dr n = 0 := by simpa using h
        walk_at "go"
        refine RD.r_app hM2 (by rw [nI_len, List.length_map]; exact Nat.le_trans (List.length_take_le ..) (by omega)) ?_
        walk_at "go"
        exact fin _ (by unfold kpU; rw [if_pos h0]) _ _ _ _ _ rfl rfl
    · rintro σ H1 ⟨x, y, z, rfl, hL1, hM1, hk⟩
      rw [nI_len, List.take_length] at hL1 hM1
      rw [nI_len, List.take_length]
      walk_at "go"
      have pL : ∀ x ∈ ns.map kp, 1 ≤ x := fun x hx => by obtain ⟨n, hn, rfl⟩ := List.mem_map.mp hx; exact kp_pos (hpos n hn)
      have pM : ∀ x ∈ ns.map kpU, 1 ≤ x := fun x hx => by obtain ⟨n, hn, rfl⟩ := List.mem_map.mp hx; exact kpU_pos (hpos n hn)
      have fL : prodN (ns.map kp) < 2 ^ 25601 := few_bits (fun x hx => by obtain ⟨n, hn, rfl⟩ := List.mem_map.mp hx; exact Nat.le_of_lt (kp_lt n)) (by rw [List.length_map]; exact hle)
      have fM : prodN (ns.map kpU) < 2 ^ 25601 := few_bits (fun x hx => by obtain ⟨n, hn, rfl⟩ := List.mem_map.mp hx; exact kpU_le n) (by rw [List.length_map]; exact hle)
      have sD : 25601 + sumD ns ≤ 134217728 := by
        have := sumD_le ns hfar
        omega
      refine ⟨L, ns.map kp, rfl, hL1, pL, by rw [List.length_map]; exact h1, by rw [List.length_map]; exact hle, few_far fL, fun H2 hk2 => ?_⟩
      walk_at "go"
      refine RD.r_rI (shl_ok (by rw [Int.natAbs_natCast]; exact fL) sD) ?_
      walk_at "go"
      refine ⟨M, ns.map kpU, rfl, hk2 _ _ hM1, pM, by rw [List.length_map]; exact h1, by rw [List.length_map]; exact hle, few_far fM, fun H3 hk3 => ?_⟩
      walk_at "go"
      refine RD.r_rI (shl_ok (by rw [Int.natAbs_natCast]; exact fM) sD) ?_
      walk_at "go"
      rename_i p hp
      refine k p (prodN (ns.map kp) * 2 ^ sumD ns) (prodN (ns.map kpU) * 2 ^ sumD ns) _ (fun b o e => RD.upd_new hp (hk3 _ _ (hk2 _ _ (hk _ _ e)))) ?_ (low_ok ns) (high_ok ns)
      rw [upd_same, shl_nat, shl_nat]

end

/-! ### two products compared -/
abbrev sCmp : Stmt := top 14
def cmpN (x y : Nat) : Int := if x < y then -1 else if y < x then 1 else 0
theorem cmp_sign {x y : Nat} : (if ((x : Nat) : Int) - ((y : Nat) : Int) < 0 then (-1 : Int) else if 0 < ((x : Nat) : Int) - ((y : Nat) : Int) then 1 else 0) = cmpN x y := by
  unfold cmpN
  repeat' split
  all_goals first | rfl | omega
def spCmp : Sp := fun vs H Q _ => ∃ (a b : Addr) (l m : List Nat), vs = [.ref a, .ref b] ∧ H a = some (.lst (nI l)) ∧ H b = some (.lst (nI m)) ∧ (∀ x ∈ l, 1 ≤ x) ∧ (∀ x ∈ m, 1 ≤ x) ∧ 1 ≤ l.length ∧ l.length ≤ 100 ∧ 1 ≤ m.length ∧ m.length ≤ 100 ∧ prodN l < far ∧ prodN m < far ∧
  ∀ H', (∀ b o, H b = some o → H' b = some o) → Q (.int (cmpN (prodN l) (prodN m))) H'
section
variable {P : Program} {w : World} {K : PySem.W.Frag} {mg : Str → Option Value} {base : Heap}
theorem scCmp : FnScope ["above", "below", "least_above", "most_above", "least_below", "most_below"] ["above", "below"] (defScope sCmp) := ⟨rfl, rfl, rfl, by decide +kernel, rfl, by decide +kernel, by decide +kernel⟩
theorem ok_cmp {f fM fB fS : Addr} {fd fdM fdB fdS : FuncData} (F : Fun K "_compared_products" "_compared_products" sCmp f fd)
    (GM : FnOk P w K mg base CX0 1 fM fdM ["factors"] spMulr) (mgM : mg "_multiplied" = some (.ref fM)) (kM : PySem.W.keepIn K (.ref fM) = true) (bM : Binds K fdM ["factors"] [])
    (GB : FnOk P w K mg base CX0 2 fB fdB ["factors"] spBnd) (mgB : mg "_bounds" = some (.ref fB)) (kB : PySem.W.keepIn K (.ref fB) = true) (bB : Binds K fdB ["factors"] [])
    (GS : FnOk P w K mg base CX0 1 fS fdS ["number"] spSign) (mgS : mg "_sign" = some (.ref fS)) (kS : PySem.W.keepIn K (.ref fS) = true) (bS : Binds K fdS ["number"] []) :
    FnOk P w K mg base CX0 3 f fd ["above", "below"] spCmp := by
  refine F.ok scCmp (fun vs H Q E h => ?_) (fun cdv A outer s H vs Q E hr h => ?_)
  · obtain ⟨a, b, l, m, rfl, _⟩ := h
    rfl
  · obtain ⟨a, b, l, m, rfl, ha, hb, pa, pb, l1, l2, m1, m2, fa, fb, k⟩ := h
    have nd := scCmp.nd
    have hr1 : Room 1 _ := hr.mono (by decide)
    refine ⟨_, (pss_cons (ps_asg (pe_call GB hr (by rfl) mgB kB bB .nil pass0 (pa_cons (pv 0) pa_nil)) (pg_tup rfl (pgs_cons (pg_name (i := 2) nd rfl (Or.inl rfl)) (pgs_cons (pg_name (i := 3) nd rfl (Or.inl rfl)) pgs_nil))))
(pss_cons (ps_asg (pe_call GB hr (by rfl) mgB kB bB .nil pass0 (pa_cons (pv 1) pa_nil)) (pg_tup rfl (pgs_cons (pg_name (i := 4) nd rfl (Or.inl rfl)) (pgs_cons (pg_name (i := 5) nd rfl (Or.inl rfl)) pgs_nil))))
(pss_cons (ps_if (pt_cmpR op_lt (pv 3) (pv 4) (nomark _))
(pss_one (ps_ret (pe_un un_neg pe_int)))
pss_nil)
(pss_cons (ps_if (pt_cmpR op_gt (pv 2) (pv 5) (nomark _))
(pss_one (ps_ret pe_int))
pss_nil)
(pss_one (ps_ret (pe_call GS hr1 (by rfl) mgS kS bS .nil pass0 (pa_cons (pe_op op_sub (pe_call GM hr1 (by rfl) mgM kM bM .nil pass0 (pa_cons (pv 0) pa_nil)) (pe_call GM hr1 (by rfl) mgM kM bM .nil pass0 (pa_cons (pv 1) pa_nil))) pa_nil)))))))), ?_⟩
    refine RD.r_start (σ' := [some (.ref a), some (.ref b), none, none, none, none]) rfl ?_
    try dsimp only [cxOf, Cx.nox, Cx.wish]
    walk_at "go"
    refine ⟨a, l, rfl, ha, pa, fun x hx => Nat.lt_of_le_of_lt (mem_le_prodN pa hx) fa, l1, l2, fun p lo hi H1 hk1 hp1 b1 b2 => ?_⟩
    walk_at "go"
    refine ⟨b, m, rfl, hk1 _ _ hb, pb, fun x hx => Nat.lt_of_le_of_lt (mem_le_prodN pb hx) fb, m1, m2, fun q lo' hi' H2 hk2 hp2 c1 c2 => ?_⟩
    walk_at "go"
    · have e : cmpN (prodN l) (prodN m) = -1 := by unfold cmpN; rw [if_pos (by omega)]
      have := k H2 fun b o e => hk2 _ _ (hk1 _ _ e)
      rw [e] at this
      exact this
    · have e : cmpN (prodN l) (prodN m) = 1 := by unfold cmpN; rw [if_neg (by omega), if_pos (by omega)]
      have := k H2 fun b o e => hk2 _ _ (hk1 _ _ e)
      rw [e] at this
      exact this
    · refine ⟨a, l, rfl, hk2 _ _ (hk1 _ _ ha), pa, l1, l2, fa, fun H3 hk3 => ?_⟩
      walk_at "go"
      refine ⟨b, m, rfl, hk3 _ _ (hk2 _ _ (hk1 _ _ hb)), pb, m1, m2, fb, fun H4 hk4 => ?_⟩
      walk_at "go"
      refine ⟨_, rfl, ?_⟩
      rw [cmp_sign]
      exact k _ fun b o e => hk4 _ _ (hk3 _ _ (hk2 _ _ (hk1 _ _ e)))
end

/-! ### a row of shares -/
abbrev sChk : Stmt := top 12
def okRow (r : Int) (prs : List (Int × Int)) : Prop := (1 ≤ r ∧ r ≤ 1000) ∧ (1 ≤ prs.length ∧ prs.length ≤ 4) ∧ ∀ p ∈ prs, 1 ≤ p.1 ∧ p.1 ≤ p.2
structure RowAt (H : Hp) (S F : Addr) (r : Int) (qs : List Addr) (prs : List (Int × Int)) : Prop where
  row : H S = some (.tup [.int r, .ref F])
  fr : H F = some (.tup (qs.map V.ref))
  len : qs.length = prs.length
  at' : ∀ (j : Nat) (q : Addr) (pr : Int × Int), qs[j]? = some q → prs[j]? = some pr → H q = some (.tup [.int pr.1, .int pr.2])
theorem RowAt.ext {H H' : Hp} {S F : Addr} {r : Int} {qs : List Addr} {prs : List (Int × Int)} (h : RowAt H S F r qs prs) (k : ∀ b o, H b = some o → H' b = some o) : RowAt H' S F r qs prs :=
  ⟨k _ _ h.row, k _ _ h.fr, h.len, fun j q pr e1 e2 => k _ _ (h.at' j q pr e1 e2)⟩
theorem RowAt.get {H : Hp} {S F : Addr} {r : Int} {qs : List Addr} {prs : List (Int × Int)} (h : RowAt H S F r qs prs) {i : Nat} {v : V} (hv : (qs.map V.ref)[i]? = some v) : ∃ (q : Addr) (pr : Int × Int), v = .ref q ∧ qs[i]? = some q ∧ prs[i]? = some pr ∧ H q = some (.tup [.int pr.1, .int pr.2]) := by
  rw [List.getElem?_map, Option.map_eq_some_iff] at hv
  obtain ⟨q, h1, h2⟩ := hv
  have hi : i < prs.length := by rw [← h.len]; exact (List.getElem?_eq_some_iff.mp h1).1
  exact ⟨q, prs[i], h2.symm, h1, List.getElem?_eq_getElem hi, h.at' i q _ h1 (List.getElem?_eq_getElem hi)⟩
def spChk (B : Addr) : Sp := fun vs H Q E => ∃ (S F : Addr) (r : Int) (qs : List Addr) (prs : List (Int × Int)), vs = [.ref S] ∧ RowAt H S F r qs prs ∧
  (okRow r prs → Q .non H) ∧ (¬ okRow r prs → ∀ H', (∀ b o, H b = some o → H' b = some o) → E (.ref B) none H')
section
variable {P : Program} {w : World} {K : PySem.W.Frag} {mg : Str → Option Value} {base : Heap}
theorem scChk : FnScope ["shares", "root", "fractions", "top", "bottom"] ["shares"] (defScope sChk) := ⟨rfl, rfl, rfl, by decide +kernel, rfl, by decide +kernel, by decide +kernel⟩
theorem ok_chk {f B : Addr} {fd : FuncData} (F : Fun K "check_row" "check_row" sChk f fd) (T : TxB mg) (TS : TxErr K mg "BadShares" B) {tms tmr : Tok} (hms : mg "MOST_SHARES" = some (.int 4 tms)) (hmr : mg "MOST_ROOT" = some (.int 1000 tmr)) :
    FnOk P w K mg base (L2.CX P w) 1 f fd ["shares"] (spChk B) := by
  refine F.okX scChk (fun vs H Q E h => ?_) (fun cdv A outer s H vs Q E hr h => ?_)
  · obtain ⟨S, F, r, qs, prs, rfl, _⟩ := h
    rfl
  · obtain ⟨S, F, r, qs, prs, rfl, hR, k1, k2⟩ := h
    have nd := scChk.nd
    refine ⟨_, (pss_cons (ps_asg (pv 0) (pg_tup rfl (pgs_cons (pg_name (i := 1) nd rfl (Or.inl rfl)) (pgs_cons (pg_name (i := 2) nd rfl (Or.inl rfl)) pgs_nil))))
(pss_cons (ps_if (pt_not (pt_chain op_le op_le pe_int (pv 1) (pe_glob (v := .int 1000) rfl hmr ⟨_, rfl⟩)))
(pss_one (ps_raise rfl (takes_of rfl rfl rfl rfl) (pmk_own PySem.F.excBase_ValueError TS.x TS.g TS.k (raises_own TS.b TS.t) (by rfl))))
pss_nil)
(pss_cons (ps_if (pt_not (pt_chain op_le op_le pe_int (pe_callB call_len_seq (by rfl) T.len PySem.boot_len (pa_cons (pv 2) pa_nil)) (pe_glob (v := .int 4) rfl hms ⟨_, rfl⟩)))
(pss_one (ps_raise rfl (takes_of rfl rfl rfl rfl) (pmk_own PySem.F.excBase_ValueError TS.x TS.g TS.k (raises_own TS.b TS.t) (by rfl))))
pss_nil)
(pss_one (ps_for (passes_of rfl) rfl (pi_tup (pv 2)) (pg_tup rfl (pgs_cons (pg_name (i := 3) nd rfl (Or.inl rfl)) (pgs_cons (pg_name (i := 4) nd rfl (Or.inl rfl)) pgs_nil)))
(pss_one (ps_if (pt_not (pt_chain op_le op_le pe_int (pv 3) (pv 4)))
(pss_one (ps_raise rfl (takes_of rfl rfl rfl rfl) (pmk_own PySem.F.excBase_ValueError TS.x TS.g TS.k (raises_own TS.b TS.t) (by rfl))))
pss_nil))))))), ?_⟩
    refine RD.r_start (σ' := [some (.ref S), none, none, none, none]) rfl ?_
    dsimp only [cxOf, Cx.nox, Cx.wish]
    have hrow := hR.row
    have hfr := hR.fr
    have hlm : (qs.map V.ref).length = prs.length := (List.length_map _).trans hR.len
    have noE : ¬ okRow r prs → E (.ref B) none H := fun h => k2 h H fun _ _ e => e
    walk_at "go"
    all_goals first | (with_reducible show RD.rForT _ _ _ _ _ _ _) | (refine noE (fun h => ?_); unfold okRow at h; omega)
    refine RD.r_forTx (SqT.of hfr) (fun i σ H' => H' = H ∧ (∃ v u, σ = [some (.ref S), some (.int r), some (.ref F), v, u]) ∧ ∀ (j : Nat) (p : Int × Int), prs[j]? = some p → j < i → 1 ≤ p.1 ∧ p.1 ≤ p.2)
      ⟨rfl, ⟨_, _, rfl⟩, fun j _ _ h => absurd h (Nat.not_lt_zero _)⟩ (fun i σ H' _ h => by rw [h.1]; exact SqT.of hfr) ?_ ?_
    · rintro i y σ H' hi ⟨rfl, ⟨v, u, rfl⟩, hg⟩
      obtain ⟨q, pr, rfl, hq, hpr, hqa⟩ := hR.get hi
      have bad : ¬ (1 ≤ pr.1 ∧ pr.1 ≤ pr.2) → E (.ref B) none H' := fun h => noE fun o => h (o.2.2 pr (List.mem_of_getElem? hpr))
      walk_at "go"
      all_goals first
        | exact bad (by omega)
        | (refine ⟨rfl, ⟨_, _, rfl⟩, fun j p h hj => ?_⟩
           by_cases e : j = i
           · subst e; rw [hpr] at h; cases h; omega
           · exact hg j p h (by omega))
    · rintro σ H' ⟨rfl, ⟨v, u, rfl⟩, hg⟩
      have hall : ∀ p ∈ prs, 1 ≤ p.1 ∧ p.1 ≤ p.2 := fun p hp => by
        obtain ⟨j, h, e⟩ := List.getElem_of_mem hp
        exact hg j p (by rw [← e]; exact List.getElem?_eq_getElem h) (by rw [hlm]; exact h)
      walk_at "go"
      exact k1 ⟨by omega, by omega, hall⟩
end

/-! ### weigh -/
abbrev sWgh : Stmt := top 13
def exA (ps ms : List Int) (prs : List (Int × Int)) (j : Nat) : List Nat :=
  List.replicate (ps.getD j 0 - ms.getD j 0).toNat (prs.getD j (1, 1)).1.toNat ++ List.replicate (ms.getD j 0 - ps.getD j 0).toNat (prs.getD j (1, 1)).2.toNat
def upL (ps ms : List Int) (prs : List (Int × Int)) : Nat → List Nat
  | 0 => []
  | n + 1 => upL ps ms prs n ++ exA ps ms prs n
def upP (ps ms : List Int) (prs : List (Int × Int)) : Nat → Nat
  | 0 => 1
  | n + 1 => upP ps ms prs n * ((prs.getD n (1, 1)).1.toNat ^ (ps.getD n 0 - ms.getD n 0).toNat * (prs.getD n (1, 1)).2.toNat ^ (ms.getD n 0 - ps.getD n 0).toNat)
def swapP (prs : List (Int × Int)) : List (Int × Int) := prs.map fun p => (p.2, p.1)
theorem swapP_len (prs : List (Int × Int)) : (swapP prs).length = prs.length := List.length_map _
theorem swapP_get {prs : List (Int × Int)} {j : Nat} {p : Int × Int} (h : prs[j]? = some p) : (swapP prs)[j]? = some (p.2, p.1) := by
  unfold swapP; rw [List.getElem?_map, h]; rfl
theorem swapP_mem {prs : List (Int × Int)} {p : Int × Int} (h : p ∈ swapP prs) : (p.2, p.1) ∈ prs := by
  obtain ⟨q, hq, rfl⟩ := List.mem_map.mp h
  exact hq
theorem prodN_rep (x : Nat) : ∀ n, prodN (List.replicate n x) = x ^ n
  | 0 => rfl
  | n + 1 => by rw [List.replicate_succ, prodN, prodN_rep x n, Nat.pow_succ, Nat.mul_comm]
theorem upL_prod (ps ms : List Int) (prs : List (Int × Int)) : ∀ n, prodN (upL ps ms prs n) = upP ps ms prs n
  | 0 => rfl
  | n + 1 => by rw [upL, prodN_app, upL_prod ps ms prs n, upP, exA, prodN_app, prodN_rep, prodN_rep]
theorem getD_some {α : Type} {l : List α} {j : Nat} {x d : α} (h : l[j]? = some x) : l.getD j d = x := by
  rw [List.getD_eq_getElem?_getD, h]; rfl
theorem nI_rep (n : Nat) {t : Int} (h : 0 ≤ t) : List.replicate n (V.int t) = nI (List.replicate n t.toNat) := by
  unfold nI
  rw [List.map_replicate, Int.toNat_of_nonneg h]
theorem up_step {ps ms : List Int} {prs : List (Int × Int)} {i : Nat} {p m : Int} {pr : Int × Int} (h1 : ps[i]? = some p) (h2 : ms[i]? = some m) (h3 : prs[i]? = some pr) (t0 : 0 ≤ pr.1) (b0 : 0 ≤ pr.2) :
    nI (upL ps ms prs i) ++ (List.replicate (p - m).toNat (V.int pr.1) ++ List.replicate (m - p).toNat (V.int pr.2)) = nI (upL ps ms prs (i + 1)) := by
  rw [nI_rep _ t0, nI_rep _ b0, nI_app, nI_app, upL, exA, getD_some h1, getD_some h2, getD_some h3]
theorem pw_get {l : List Int} (h : ∀ p ∈ l, 0 ≤ p ∧ p ≤ 2) (j : Nat) : 0 ≤ l.getD j 0 ∧ l.getD j 0 ≤ 2 := by
  by_cases hj : j < l.length
  · rw [getD_some (List.getElem?_eq_getElem hj)]; exact h _ (List.getElem_mem hj)
  · rw [List.getD_eq_getElem?_getD, List.getElem?_eq_none (by omega)]; exact ⟨Int.le_refl _, by decide⟩
theorem upL_len {ps ms : List Int} {prs : List (Int × Int)} (hp : ∀ p ∈ ps, 0 ≤ p ∧ p ≤ 2) (hm : ∀ p ∈ ms, 0 ≤ p ∧ p ≤ 2) : ∀ n, (upL ps ms prs n).length ≤ 2 * n
  | 0 => Nat.le_refl _
  | n + 1 => by
    have h1 := pw_get hp n
    have h2 := pw_get hm n
    have h3 := upL_len (prs := prs) hp hm n
    rw [upL, exA, List.length_append, List.length_append, List.length_replicate, List.length_replicate]
    omega
theorem upL_mem {ps ms : List Int} {prs : List (Int × Int)} {B : Nat} (hB : 1 ≤ B) (h : ∀ p ∈ prs, (1 ≤ p.1 ∧ p.1.toNat ≤ B) ∧ 1 ≤ p.2 ∧ p.2.toNat ≤ B) : ∀ n, ∀ x ∈ upL ps ms prs n, 1 ≤ x ∧ x ≤ B
  | 0, x, hx => nomatch hx
  | n + 1, x, hx => by
    have hpr : (1 ≤ (prs.getD n (1, 1)).1 ∧ (prs.getD n (1, 1)).1.toNat ≤ B) ∧ 1 ≤ (prs.getD n (1, 1)).2 ∧ (prs.getD n (1, 1)).2.toNat ≤ B := by
      by_cases hj : n < prs.length
      · rw [getD_some (List.getElem?_eq_getElem hj)]; exact h _ (List.getElem_mem hj)
      · rw [List.getD_eq_getElem?_getD, List.getElem?_eq_none (by omega)]; exact ⟨⟨by decide, hB⟩, by decide, hB⟩
    rw [upL] at hx
    rcases List.mem_append.mp hx with hx | hx
    · exact upL_mem hB h n x hx
    · rw [exA] at hx
      rcases List.mem_append.mp hx with hx | hx
      · rw [List.eq_of_mem_replicate hx]; omega
      · rw [List.eq_of_mem_replicate hx]; omega
def wide (prs : List (Int × Int)) : Prop := ∀ p ∈ prs, p.1.toNat ≤ 2 ^ 1000 ∧ p.2.toNat ≤ 2 ^ 1000
/-- what weigh tells -/
def wOf (c d : Int) (ps ms : List Int) (r : Int) (prs : List (Int × Int)) : Int :=
  cmpN (upP ps ms prs prs.length * c.toNat ^ r.toNat) (upP ps ms (swapP prs) prs.length * d.toNat ^ r.toNat)
def spWgh (C B M : Addr) : Sp := fun vs H Q E => ∃ (a b S F : Addr) (c d r : Int) (ps ms : List Int) (qs : List Addr) (prs : List (Int × Int)), vs = [.ref a, .ref b, .ref S] ∧ LenAt H C a c ps ∧ LenAt H C b d ms ∧ okLen c ps ∧ okLen d ms ∧ RowAt H S F r qs prs ∧ wide prs ∧
  (okRow r prs → ps.length = prs.length → ms.length = prs.length → ∀ H', (∀ b o, H b = some o → H' b = some o) → Q (.int (wOf c d ps ms r prs)) H') ∧
  (¬ okRow r prs → ∀ H', (∀ b o, H b = some o → H' b = some o) → E (.ref B) none H') ∧
  (okRow r prs → ¬ (ps.length = prs.length ∧ ms.length = prs.length) → ∀ H', (∀ b o, H b = some o → H' b = some o) → E (.ref M) none H')
theorem count_far {c r : Int} (hc : c ≤ 1000000) (hr : r ≤ 1000) : c.toNat ^ r.toNat ≤ 2 ^ 20000 := by
  have h1 : c.toNat ≤ 2 ^ 20 := Nat.le_trans (m := 1000000) (by omega) (by decide)
  have h2 : c.toNat ^ r.toNat ≤ (2 ^ 20) ^ r.toNat := Nat.pow_le_pow_left h1 _
  refine Nat.le_trans h2 ?_
  rw [← Nat.pow_mul]
  exact Nat.pow_le_pow_right (by decide) (by omega)
theorem list_far {l : List Nat} (h : ∀ x ∈ l, x ≤ 2 ^ 1000) (hl : l.length ≤ 8) : prodN l ≤ 2 ^ 8000 := by
  refine Nat.le_trans (prodN_le l _ h) ?_
  rw [← Nat.pow_mul]
  exact Nat.pow_le_pow_right (by decide) (by omega)
theorem both_far {a b : Nat} (h1 : a ≤ 2 ^ 8000) (h2 : b ≤ 2 ^ 20000) : a * b < far := by
  refine Nat.lt_of_le_of_lt (Nat.mul_le_mul h1 h2) ?_
  rw [← Nat.pow_add]
  exact Nat.pow_lt_pow_right (by decide) (by decide)
theorem int_get {l : List Int} {i : Nat} {v : V} (h : (l.map V.int)[i]? = some v) : ∃ z, l[i]? = some z ∧ v = .int z := by
  rw [List.getElem?_map, Option.map_eq_some_iff] at h
  obtain ⟨n, h1, h2⟩ := h
  exact ⟨n, h1, h2.symm⟩
section
variable {P : Program} {w : World} {K : PySem.W.Frag} {mg : Str → Option Value} {base : Heap}
theorem scWgh : FnScope ["left", "right", "shares", "root", "fractions", "above", "below", "mine", "its", "top", "bottom"] ["left", "right", "shares"] (defScope sWgh) := ⟨rfl, rfl, rfl, by decide +kernel, rfl, by decide +kernel, by decide +kernel⟩
theorem ok_wgh {f C B M fK fE fQ : Addr} {mc um ud : Value} {fd fdK fdE fdQ : FuncData} (F : Fun K "weigh" "weigh" sWgh f fd) (T : TxB mg) (T2 : TxW mg) (TL : TxLen K mg C mc um ud) (TMi : TxErr K mg "Mismatch" M)
    (GK : FnOk P w K mg base (L2.CX P w) 1 fK fdK ["shares"] (spChk B)) (mgK : mg "check_row" = some (.ref fK)) (kK : PySem.W.keepIn K (.ref fK) = true) (bK : Binds K fdK ["shares"] [])
    (GE : FnOk P w K mg base CX0 1 fE fdE ["base", "exponent"] spPow) (mgE : mg "_power" = some (.ref fE)) (kE : PySem.W.keepIn K (.ref fE) = true) (bE : Binds K fdE ["base", "exponent"] [])
    (GQ : FnOk P w K mg base CX0 3 fQ fdQ ["above", "below"] spCmp) (mgQ : mg "_compared_products" = some (.ref fQ)) (kQ : PySem.W.keepIn K (.ref fQ) = true) (bQ : Binds K fdQ ["above", "below"] []) :
    FnOk P w K mg base (L2.CX P w) 4 f fd ["left", "right", "shares"] (spWgh C B M) := by
  refine F.okX scWgh (fun vs H Q E h => ?_) (fun cdv A outer s H vs Q E hr h => ?_)
  · obtain ⟨a, b, S, F, c, d, r, ps, ms, qs, prs, rfl, _⟩ := h
    rfl
  · obtain ⟨a, b, S, F, c, d, r, ps, ms, qs, prs, rfl, ⟨dxa, pa, ha, hpa⟩, ⟨dxb, pb, hb, hpb⟩, oka, okb, hR, hw, k1, k2, k3⟩ := h
    have nd := scWgh.nd
    have hr1 : Room 1 _ := hr.mono (by decide)
    have hcl := TL.cl
    have hnc := TL.nc
    have hnp := TL.np
    refine ⟨_, (pss_cons (ps_expr (pe_call GK hr1 (by rfl) mgK kK bK .nil (passes_call (takes_of rfl rfl rfl rfl) (fun _ _ _ _ h => h)) (pa_cons (pv 2) pa_nil)))
(pss_cons (ps_asg (pv 2) (pg_tup rfl (pgs_cons (pg_name (i := 3) nd rfl (Or.inl rfl)) (pgs_cons (pg_name (i := 4) nd rfl (Or.inl rfl)) pgs_nil))))
(pss_cons (ps_if (PW.pt (pw_or (pt_cmpR op_ne (pe_callB call_len_seq (by rfl) T.len PySem.boot_len (pa_cons (pe_fld (pv 0) rfl) pa_nil)) (pe_callB call_len_seq (by rfl) T.len PySem.boot_len (pa_cons (pv 4) pa_nil)) (nomark _)) (pw_or1 (pt_cmpR op_ne (pe_callB call_len_seq (by rfl) T.len PySem.boot_len (pa_cons (pe_fld (pv 1) rfl) pa_nil)) (pe_callB call_len_seq (by rfl) T.len PySem.boot_len (pa_cons (pv 4) pa_nil)) (nomark _)))))
(pss_one (ps_raise rfl (takes_of rfl rfl rfl rfl) (pmk_own PySem.F.excBase_ValueError TMi.x TMi.g TMi.k (raises_own TMi.b TMi.t) (by rfl))))
pss_nil)
(pss_cons (ps_set (i := 5) nd rfl (Or.inl rfl) (pe_lst pa_nil))
(pss_cons (ps_set (i := 6) nd rfl (Or.inl rfl) (pe_lst pa_nil))
(pss_cons (ps_for (passes_of rfl) rfl (OWN.pi_zip3 (by rfl) T2.zip (pa_cons (pe_fld (pv 0) rfl) (pa_cons (pe_fld (pv 1) rfl) (pa_cons (pv 4) pa_nil)))) (pg_tup rfl (pgs_cons (pg_name (i := 7) nd rfl (Or.inl rfl)) (pgs_cons (pg_name (i := 8) nd rfl (Or.inl rfl)) (pgs_cons (pg_tup rfl (pgs_cons (pg_name (i := 9) nd rfl (Or.inl rfl)) (pgs_cons (pg_name (i := 10) nd rfl (Or.inl rfl)) pgs_nil))) pgs_nil))))
(pss_cons (ps_expr (pe_bm PySem.F.plainAttrs_list PySem.F.slot_list_extend PySem.F.type_list_extend mt_extend (pv 5) (pa_cons (pe_op op_cat (pe_op op_rep (pe_lst (pa_cons (pv 9) pa_nil)) (pe_op op_sub (pv 7) (pv 8))) (pe_op op_rep (pe_lst (pa_cons (pv 10) pa_nil)) (pe_op op_sub (pv 8) (pv 7)))) pa_nil)))
(pss_one (ps_expr (pe_bm PySem.F.plainAttrs_list PySem.F.slot_list_extend PySem.F.type_list_extend mt_extend (pv 6) (pa_cons (pe_op op_cat (pe_op op_rep (pe_lst (pa_cons (pv 10) pa_nil)) (pe_op op_sub (pv 7) (pv 8))) (pe_op op_rep (pe_lst (pa_cons (pv 9) pa_nil)) (pe_op op_sub (pv 8) (pv 7)))) pa_nil))))))
(pss_cons (ps_expr (pe_bm PySem.F.plainAttrs_list PySem.F.slot_list_append PySem.F.type_list_append mt_append (pv 5) (pa_cons (pe_call GE hr1 (by rfl) mgE kE bE .nil pass0 (pa_cons (pe_fld (pv 0) rfl) (pa_cons (pv 3) pa_nil))) pa_nil)))
(pss_cons (ps_expr (pe_bm PySem.F.plainAttrs_list PySem.F.slot_list_append PySem.F.type_list_append mt_append (pv 6) (pa_cons (pe_call GE hr1 (by rfl) mgE kE bE .nil pass0 (pa_cons (pe_fld (pv 1) rfl) (pa_cons (pv 3) pa_nil))) pa_nil)))
(pss_one (ps_ret (pe_call GQ hr (by rfl) mgQ kQ bQ .nil pass0 (pa_cons (pv 5) (pa_cons (pv 6) pa_nil))))))))))))), ?_⟩
    refine RD.r_start (σ' := [some (.ref a), some (.ref b), some (.ref S), none, none, none, none, none, none, none, none]) rfl ?_
    dsimp only [cxOf, Cx.nox, Cx.wish]
    have hrow := hR.row
    have hfr := hR.fr
    have hlq : (qs.map V.ref).length = prs.length := (List.length_map _).trans hR.len
    have hla : (ps.map V.int).length = ps.length := List.length_map _
    have hlb : (ms.map V.int).length = ms.length := List.length_map _
    walk_at "go"
    refine ⟨S, F, r, qs, prs, rfl, hR, fun okr => ?_, fun no H1 e1 => k2 no H1 e1⟩
    walk_at "go"
    all_goals first | exact k3 okr (by omega) _ (fun _ _ e => e) | skip
    rename_i U hU D hD
    have nDU : D ≠ U := fun e => by rw [e, upd_same] at hD; cases hD
    have hD' : H D = none := by rwa [upd_ne nDU] at hD
    refine OWN.r_forZ ?_
    walk_at "go"
    refine ⟨pa, pb, F, _, _, _, rfl, SqT.of (RD.upd_new hD (RD.upd_new hU hpa)), SqT.of (RD.upd_new hD (RD.upd_new hU hpb)), SqT.of (RD.upd_new hD (RD.upd_new hU hfr)),
      OWN.for_zip3 (xs := ps.map V.int) (ys := ms.map V.int) (zs := qs.map V.ref) (by omega) (by omega) (fun i σ H' => ∃ x y z u, σ = [some (.ref a), some (.ref b), some (.ref S), some (.int r), some (.ref F), some (.ref U), some (.ref D), x, y, z, u] ∧ H' U = some (.lst (nI (upL ps ms prs i))) ∧ H' D = some (.lst (nI (upL ps ms (swapP prs) i))) ∧ ∀ b o, H b = some o → H' b = some o) ?_ ?_ ?_ ?_⟩
    · exact ⟨_, _, _, _, rfl, by rw [upd_ne nDU.symm]; exact upd_same, upd_same, fun b o e => RD.upd_new hD (RD.upd_new hU e)⟩
    · rintro i σ H1 ⟨x, y, z, u, rfl, hU1, hD1, hk⟩
      exact ⟨SqT.of (hk _ _ hpa), SqT.of (hk _ _ hpb), SqT.of (hk _ _ hfr)⟩
    · rintro i x y z T' σ H1 hx hy hz ⟨v1, v2, v3, v4, rfl, hU1, hD1, hk⟩ hT
      obtain ⟨p, hp, rfl⟩ := int_get hx
      obtain ⟨m, hm, rfl⟩ := int_get hy
      obtain ⟨q, pr, rfl, hq, hpr, hqa⟩ := hR.get hz
      have hq1 := hk _ _ hqa
      have okp := okr.2.2 pr (List.mem_of_getElem? hpr)
      have bp := oka.2.2 p (List.mem_of_getElem? hp)
      have bm := okb.2.2 m (List.mem_of_getElem? hm)
      have hil : i < prs.length := (List.getElem?_eq_some_iff.mp hpr).1
      have hl4 := okr.2.1
      walk_at "go"
      rename_i l1 hl1
      refine OWN.r_rep1 upd_same (by omega) (by omega) fun r1 hr1' => ?_
      walk_at "go"
      rename_i l2 hl2
      refine OWN.r_rep1 upd_same (by omega) (by omega) fun r2 hr2' => ?_
      walk_at "go"
      rename_i c1 hc1
      have old1 : ∀ b o, H1 b = some o → _ := fun b o e => RD.upd_new (o := HO.lst (List.replicate (p - m).toNat (V.int pr.fst) ++ List.replicate (m - p).toNat (V.int pr.snd))) hc1 (RD.upd_new hr2' (RD.upd_new hl2 (RD.upd_new hr1' (RD.upd_new hl1 (RD.upd_new hT e)))))
      have lenU := upL_len (prs := prs) oka.2.2 okb.2.2 i
      have lenD := upL_len (prs := swapP prs) oka.2.2 okb.2.2 i
      refine OWN.r_extG (old1 _ _ hU1) upd_same (by rw [nI_len, List.length_append, List.length_replicate, List.length_replicate]; omega) fun H6 hU6 hk6 => ?_
      have hD6 : H6 D = some (.lst (nI (upL ps ms (swapP prs) i))) := hk6 _ _ nDU (old1 _ _ hD1)
      have old6 : ∀ b o, H b = some o → H6 b = some o := fun b o e => hk6 _ _ (ne_of_none e hU) (old1 _ _ (hk _ _ e))
      clear hk6 old1 hc1 hr2' hl2 hr1' hl1
      walk_at "go"
      rename_i l3 hl3
      refine OWN.r_rep1 upd_same (by omega) (by omega) fun r3 hr3' => ?_
      walk_at "go"
      rename_i l4 hl4'
      refine OWN.r_rep1 upd_same (by omega) (by omega) fun r4 hr4' => ?_
      walk_at "go"
      rename_i c2 hc2
      have old2 : ∀ b o, H6 b = some o → _ := fun b o e => RD.upd_new (o := HO.lst (List.replicate (p - m).toNat (V.int pr.snd) ++ List.replicate (m - p).toNat (V.int pr.fst))) hc2 (RD.upd_new hr4' (RD.upd_new hl4' (RD.upd_new hr3' (RD.upd_new hl3 e))))
      refine OWN.r_extG (old2 _ _ hD6) upd_same (by rw [nI_len, List.length_append, List.length_replicate, List.length_replicate]; omega) fun H7 hD7 hk7 => ?_
      walk_at "go"
      refine ⟨_, _, _, _, rfl, ?_, ?_, fun b o e => hk7 _ _ (ne_of_none e hD') (old2 _ _ (old6 _ _ e))⟩
      · rw [hk7 _ _ nDU.symm (old2 _ _ hU6), up_step hp hm hpr (by omega) (by omega)]
      · rw [hD7]
        rw [up_step (pr := (pr.2, pr.1)) hp hm (swapP_get hpr) (by show 0 ≤ pr.2; omega) (by show 0 ≤ pr.1; omega)]
    · rintro σ H1 ⟨x, y, z, u, rfl, hU1, hD1, hk⟩
      have okr1 := okr.1
      have okr2 := okr.2.1
      have oka1 := oka.1
      have okb1 := okb.1
      have nk : (ps.map V.int).length = prs.length := by omega
      rw [nk] at hU1 hD1
      have lenU := upL_len (prs := prs) oka.2.2 okb.2.2 prs.length
      have lenD := upL_len (prs := swapP prs) oka.2.2 okb.2.2 prs.length
      have ha1 := hk _ _ ha
      have hb1 := hk _ _ hb
      have nbU : b ≠ U := ne_of_none hb hU
      have mU := upL_mem (ps := ps) (ms := ms) (B := 2 ^ 1000) (Nat.pow_pos (by decide)) (fun p hp => ⟨⟨(okr.2.2 p hp).1, (hw p hp).1⟩, by have := okr.2.2 p hp; omega, (hw p hp).2⟩) prs.length
      have mD := upL_mem (ps := ps) (ms := ms) (prs := swapP prs) (B := 2 ^ 1000) (Nat.pow_pos (by decide)) (fun p hp => by
        have h1 := okr.2.2 _ (swapP_mem hp)
        have h2 := hw _ (swapP_mem hp)
        exact ⟨⟨by omega, h2.2⟩, h1.1, h2.1⟩) prs.length
      have fU := list_far (fun x hx => (mU x hx).2) (by omega)
      have fD := list_far (fun x hx => (mD x hx).2) (by omega)
      have ca := count_far (c := c) (r := r) (by omega) (by omega)
      have cb := count_far (c := d) (r := r) (by omega) (by omega)
      have ec : ((c.toNat : Nat) : Int) = c := Int.toNat_of_nonneg (by omega)
      have ed : ((d.toNat : Nat) : Int) = d := Int.toNat_of_nonneg (by omega)
      have er : ((r.toNat : Nat) : Int) = r := Int.toNat_of_nonneg (by omega)
      have pc : 1 ≤ c.toNat := by omega
      have pd : 1 ≤ d.toNat := by omega
      have bU := both_far fU ca
      have bD := both_far fD cb
      rw [upL_prod] at bU bD
      walk_at "go"
      refine ⟨c.toNat, r.toNat, by rw [ec, er]; rfl, pc, Nat.lt_of_le_of_lt ca (Nat.pow_lt_pow_right (by decide) (by decide)), ?_⟩
      walk_at "go"
      refine RD.r_app hU1 (by rw [nI_len]; omega) ?_
      walk_at "go"
      refine ⟨d.toNat, r.toNat, by rw [ed, er]; rfl, pd, Nat.lt_of_le_of_lt cb (Nat.pow_lt_pow_right (by decide) (by decide)), ?_⟩
      walk_at "go"
      refine RD.r_app (RD.upd_at nDU hD1) (by rw [nI_len]; omega) ?_
      walk_at "go"
      refine ⟨U, D, upL ps ms prs prs.length ++ [c.toNat ^ r.toNat], upL ps ms (swapP prs) prs.length ++ [d.toNat ^ r.toNat], rfl, ?_, ?_, ?_, ?_, by simp, by simp; omega, by simp, by simp; omega, ?_, ?_, fun H' hk' => ?_⟩
      · rw [upd_ne nDU.symm, upd_same, ← nI_app]; rfl
      · rw [upd_same, ← nI_app]; rfl
      · intro x hx
        rcases List.mem_append.mp hx with hx | hx
        · exact (mU x hx).1
        · rw [List.mem_singleton.mp hx]; exact Nat.pow_pos pc
      · intro x hx
        rcases List.mem_append.mp hx with hx | hx
        · exact (mD x hx).1
        · rw [List.mem_singleton.mp hx]; exact Nat.pow_pos pd
      · rw [prodN_app, upL_prod, prodN, prodN, Nat.mul_one]; exact bU
      · rw [prodN_app, upL_prod, prodN, prodN, Nat.mul_one]; exact bD
      · rw [prodN_app, prodN_app, upL_prod, upL_prod, prodN, prodN, prodN, prodN, Nat.mul_one, Nat.mul_one]
        refine k1 okr (by omega) (by omega) H' fun b o e => hk' _ _ ?_
        rw [upd_ne (ne_of_none e hD'), upd_ne (ne_of_none e hU)]
        exact hk _ _ e
end

/-! ### the law's power -/
abbrev sLPow : Stmt := top 23
def spLPow : Sp := fun vs H Q _ => ∃ B E : Nat, vs = [.int B, .int E] ∧ 1 ≤ B ∧ E < 4096 ∧ B ^ E < far ∧ Q (.int ((B ^ E : Nat) : Int)) H
section
variable {P : Program} {w : World} {K : PySem.W.Frag} {mg : Str → Option Value} {base : Heap}
theorem scLPow : FnScope ["_law_base", "_law_exponent", "_law_result", "_law_bit"] ["_law_base", "_law_exponent"] (defScope sLPow) := ⟨rfl, rfl, rfl, by decide +kernel, rfl, by decide +kernel, by decide +kernel⟩
theorem ok_lpow {f : Addr} {fd : FuncData} (F : Fun K "_law_power" "_law_power" sLPow f fd) (T : TxB mg) : FnOk P w K mg base CX0 1 f fd ["_law_base", "_law_exponent"] spLPow := by
  refine F.ok scLPow (fun vs H Q E h => ?_) (fun cdv A outer s H vs Q E hr h => ?_)
  · obtain ⟨B, E, rfl, _⟩ := h
    rfl
  · obtain ⟨B, E, rfl, hB, hE4, hE, k⟩ := h
    have nd := scLPow.nd
    refine ⟨_, (pss_cons (ps_set (i := 2) nd rfl (Or.inl rfl) pe_int)
(pss_cons (ps_for PassesOwn.never rfl (pi_range1 (by rfl) T.range (pa_cons pe_int pa_nil)) (pg_name (i := 3) nd rfl (Or.inl rfl))
(pss_one (ps_if (pt_cmpR op_gt (pv 1) pe_int (nomark _))
(pss_cons (ps_if (pt_cmpR op_eq (pe_op op_mod (pe_callTy call_int1 (by rfl) T.int (by decide +kernel) (pa_cons (pv 1) pa_nil)) pe_int) pe_int (nomark _))
(pss_one (ps_set (i := 2) nd rfl (Or.inl rfl) (pe_op op_mulW (pv 2) (pv 0))))
pss_nil)
(pss_cons (ps_set (i := 1) nd rfl (Or.inl rfl) (pe_op op_fdiv (pv 1) pe_int))
(pss_one (ps_if (pt_cmpR op_gt (pv 1) pe_int (nomark _))
(pss_one (ps_set (i := 0) nd rfl (Or.inl rfl) (pe_op op_mulW (pv 0) (pv 0))))
pss_nil))))
pss_nil)))
(pss_one (ps_ret (pv 2))))), ?_⟩
    refine RD.r_start (σ' := [some (.int B), some (.int E), none, none]) rfl ?_
    try dsimp only [cxOf, Cx.nox, Cx.wish]
    walk_at "go"
    refine ⟨12, rfl, by decide, by decide, for_range (lo := 0) (n := 12) (fun i σ H' => ∃ (b e r : Nat) (v : Option V), σ = [some (.int b), some (.int e), some (.int r), v] ∧ H' = H ∧ 1 ≤ b ∧ 1 ≤ r ∧ r * b ^ e = B ^ E ∧ e < 2 ^ (12 - i)) ⟨B, E, 1, _, rfl, rfl, hB, Nat.le_refl _, Nat.one_mul _, hE4⟩ ?_ ?_⟩
    · rintro i σ H' hi ⟨b, e, r, v, rfl, rfl, hb, hr1, hp, he⟩
      have h2 : e / 2 < 2 ^ (12 - (i + 1)) := by
        have e1 : 12 - i = (12 - (i + 1)) + 1 := by omega
        rw [e1, Nat.pow_succ] at he
        omega
      by_cases he0 : e = 0
      · subst he0
        walk_at "go"
        exact ⟨b, 0, r, _, rfl, rfl, hb, hr1, hp, Nat.pow_pos (by decide)⟩
      · have he1 : 1 ≤ e := by omega
        have hbE : b < far := Nat.lt_of_le_of_lt (Nat.le_trans (le_pow_self hb he1) (Nat.le_trans (Nat.le_mul_of_pos_left _ hr1) (Nat.le_of_eq hp))) hE
        have hrE : r < far := Nat.lt_of_le_of_lt (Nat.le_trans (Nat.le_mul_of_pos_right _ (Nat.pow_pos hb)) (Nat.le_of_eq hp)) hE
        have m1 := mulW_ok hrE hbE
        have m2 := mulW_ok hbE hbE
        have e2 : (e : Int) / 2 = ((e / 2 : Nat) : Int) := rfl
        walk_at "go"
        · rename_i h1 h3
          have h1' : e % 2 = 1 := by omega
          exact ⟨b * b, e / 2, r * b, _, by rw [Int.natCast_mul, Int.natCast_mul]; rfl, rfl, Nat.mul_pos hb hb, Nat.mul_pos hr1 hb, (pow_step h1').trans hp, h2⟩
        · rename_i h1 h3
          have h1' : e = 1 := by omega
          subst h1'
          exact ⟨b, 0, r * b, _, by rw [Int.natCast_mul]; rfl, rfl, hb, Nat.mul_pos hr1 hb, by rw [Nat.pow_zero, Nat.mul_one, ← hp, Nat.pow_one], h2⟩
        · rename_i h1
          have h1' : ¬ e % 2 = 1 := by omega
          exact ⟨b * b, e / 2, r, _, by rw [Int.natCast_mul]; rfl, rfl, Nat.mul_pos hb hb, hr1, (pow_step0 h1').trans hp, h2⟩
    · rintro σ H' ⟨b, e, r, v, rfl, rfl, hb, hr1, hp, he⟩
      have he0 : e = 0 := by
        have : 2 ^ (12 - 12) = 1 := rfl
        omega
      subst he0
      rw [Nat.pow_zero, Nat.mul_one] at hp
      walk_at "go"
      rw [hp]
      exact k
end

section
/-! ### the law's weighing -/
local macro_rules | `(tactic| walk_at "go") => `(tactic| (repeat' (first | walk_at "rd1" | walk_at "br" | (refine RD.r_ixT (by walk_at "sq") (by assumption) ?_))))
abbrev sLWgh : Stmt := top 24
/-- a plain length: a count and a tuple of powers -/
structure PlnAt (H : Hp) (q t : Addr) (c : Int) (ps : List Int) : Prop where
  hq : H q = some (.tup [.int c, .ref t])
  ht : H t = some (.tup (ps.map V.int))
theorem PlnAt.ext {H H' : Hp} {q t : Addr} {c : Int} {ps : List Int} (h : PlnAt H q t c ps) (k : ∀ b o, H b = some o → H' b = some o) : PlnAt H' q t c ps := ⟨k _ _ h.hq, k _ _ h.ht⟩
def spLWgh : Sp := fun vs H Q _ => ∃ (a b t u S F : Addr) (c d r : Int) (ps ms : List Int) (qs : List Addr) (prs : List (Int × Int)), vs = [.ref a, .ref b, .ref S] ∧ PlnAt H a t c ps ∧ PlnAt H b u d ms ∧ okLen c ps ∧ okLen d ms ∧ ps.length = prs.length ∧ ms.length = prs.length ∧ RowAt H S F r qs prs ∧ okRow r prs ∧ wide prs ∧
  Q (.int (wOf c d ps ms r prs)) H
theorem up_wide {ps ms : List Int} {prs : List (Int × Int)} {c r : Int} (hp : ∀ p ∈ ps, 0 ≤ p ∧ p ≤ 2) (hm : ∀ p ∈ ms, 0 ≤ p ∧ p ≤ 2) (h : ∀ p ∈ prs, (1 ≤ p.1 ∧ p.1.toNat ≤ 2 ^ 1000) ∧ 1 ≤ p.2 ∧ p.2.toNat ≤ 2 ^ 1000) (hc : c ≤ 1000000) (hr : r ≤ 1000) {n : Nat} (hn : n ≤ 4) :
    c.toNat ^ r.toNat * upP ps ms prs n < far := by
  have m := upL_mem (ps := ps) (ms := ms) (prs := prs) (B := 2 ^ 1000) (Nat.pow_pos (by decide)) h n
  have l := upL_len (prs := prs) hp hm n
  have f := list_far (fun x hx => (m x hx).2) (by omega)
  rw [upL_prod] at f
  rw [Nat.mul_comm]
  exact both_far f (count_far hc hr)
theorem pw_far {t g : Nat} (h : t ≤ 2 ^ 1000) (hg : g ≤ 2) : t ^ g < far := by
  have h1 : t ^ g ≤ (2 ^ 1000) ^ g := Nat.pow_le_pow_left h _
  refine Nat.lt_of_le_of_lt h1 ?_
  rw [← Nat.pow_mul]
  exact Nat.pow_lt_pow_right (by decide) (by omega)
theorem up_at {ps ms : List Int} {prs : List (Int × Int)} {i : Nat} {p m : Int} {pr : Int × Int} (h1 : ps.getD i 0 = p) (h2 : ms.getD i 0 = m) (h3 : prs[i]? = some pr) : upP ps ms prs (i + 1) = upP ps ms prs i * (pr.1.toNat ^ (p - m).toNat * pr.2.toNat ^ (m - p).toNat) := by
  rw [upP, h1, h2, getD_some h3]
theorem cmp_int {x y : Nat} : (if decide ((y : Int) < (x : Int)) = true then (1 : Int) else 0) - (if decide ((x : Int) < (y : Int)) = true then (1 : Int) else 0) = cmpN x y := by
  unfold cmpN
  simp only [decide_eq_true_eq]
  repeat' split
  all_goals first | rfl | omega
section
variable {P : Program} {w : World} {K : PySem.W.Frag} {mg : Str → Option Value} {base : Heap}
theorem scLWgh : FnScope ["_law_left", "_law_right", "_law_row", "_law_first", "_law_second", "_law_k", "_law_gap"] ["_law_left", "_law_right", "_law_row"] (defScope sLWgh) := ⟨rfl, rfl, rfl, by decide +kernel, rfl, by decide +kernel, by decide +kernel⟩
theorem ok_lwgh {f fE : Addr} {fd fdE : FuncData} (F : Fun K "_law_weigh" "_law_weigh" sLWgh f fd) (T : TxB mg)
    (GE : FnOk P w K mg base CX0 1 fE fdE ["_law_base", "_law_exponent"] spLPow) (mgE : mg "_law_power" = some (.ref fE)) (kE : PySem.W.keepIn K (.ref fE) = true) (bE : Binds K fdE ["_law_base", "_law_exponent"] []) : FnOk P w K mg base CX0 2 f fd ["_law_left", "_law_right", "_law_row"] spLWgh := by
  refine F.ok scLWgh (fun vs H Q E h => ?_) (fun cdv A outer s H vs Q E hr h => ?_)
  · obtain ⟨a, b, t, u, S, F, c, d, r, ps, ms, qs, prs, rfl, _⟩ := h
    rfl
  · obtain ⟨a, b, t, u, S, F, c, d, r, ps, ms, qs, prs, rfl, ⟨ha, ht⟩, ⟨hb, hu⟩, oka, okb, lp, lm, hR, okr, hw, k⟩ := h
    have nd := scLWgh.nd
    refine ⟨_, (pss_cons (ps_set (i := 3) nd rfl (Or.inl rfl) (pe_call GE hr (by rfl) mgE kE bE .nil pass0 (pa_cons (pe_ix ix_tup (pv 0) pe_int (fun _ _ => rfl)) (pa_cons (pe_ix ix_tup (pv 2) pe_int (fun _ _ => rfl)) pa_nil))))
(pss_cons (ps_set (i := 4) nd rfl (Or.inl rfl) (pe_call GE hr (by rfl) mgE kE bE .nil pass0 (pa_cons (pe_ix ix_tup (pv 1) pe_int (fun _ _ => rfl)) (pa_cons (pe_ix ix_tup (pv 2) pe_int (fun _ _ => rfl)) pa_nil))))
(pss_cons (ps_for PassesOwn.never rfl (pi_range1 (by rfl) T.range (pa_cons (pe_callB call_len_seq (by rfl) T.len PySem.boot_len (pa_cons (pe_ix ix_tup (pv 2) pe_int (fun _ _ => rfl)) pa_nil)) pa_nil)) (pg_name (i := 5) nd rfl (Or.inl rfl))
(pss_cons (ps_set (i := 6) nd rfl (Or.inl rfl) (pe_op op_sub (pe_ix ix_tup (pe_ix ix_tup (pv 0) pe_int (fun _ _ => rfl)) (pv 5) (fun _ _ => rfl)) (pe_ix ix_tup (pe_ix ix_tup (pv 1) pe_int (fun _ _ => rfl)) (pv 5) (fun _ _ => rfl))))
(pss_cons (ps_if (pt_cmpR op_gt (pv 6) pe_int (nomark _))
(pss_cons (ps_set (i := 3) nd rfl (Or.inl rfl) (pe_op op_mulW (pv 3) (pe_call GE hr (by rfl) mgE kE bE .nil pass0 (pa_cons (pe_ix ix_tup (pe_ix ix_tup (pe_ix ix_tup (pv 2) pe_int (fun _ _ => rfl)) (pv 5) (fun _ _ => rfl)) pe_int (fun _ _ => rfl)) (pa_cons (pv 6) pa_nil)))))
(pss_one (ps_set (i := 4) nd rfl (Or.inl rfl) (pe_op op_mulW (pv 4) (pe_call GE hr (by rfl) mgE kE bE .nil pass0 (pa_cons (pe_ix ix_tup (pe_ix ix_tup (pe_ix ix_tup (pv 2) pe_int (fun _ _ => rfl)) (pv 5) (fun _ _ => rfl)) pe_int (fun _ _ => rfl)) (pa_cons (pv 6) pa_nil)))))))
pss_nil)
(pss_one (ps_if (pt_cmpR op_lt (pv 6) pe_int (nomark _))
(pss_cons (ps_set (i := 3) nd rfl (Or.inl rfl) (pe_op op_mulW (pv 3) (pe_call GE hr (by rfl) mgE kE bE .nil pass0 (pa_cons (pe_ix ix_tup (pe_ix ix_tup (pe_ix ix_tup (pv 2) pe_int (fun _ _ => rfl)) (pv 5) (fun _ _ => rfl)) pe_int (fun _ _ => rfl)) (pa_cons (pe_un un_neg (pv 6)) pa_nil)))))
(pss_one (ps_set (i := 4) nd rfl (Or.inl rfl) (pe_op op_mulW (pv 4) (pe_call GE hr (by rfl) mgE kE bE .nil pass0 (pa_cons (pe_ix ix_tup (pe_ix ix_tup (pe_ix ix_tup (pv 2) pe_int (fun _ _ => rfl)) (pv 5) (fun _ _ => rfl)) pe_int (fun _ _ => rfl)) (pa_cons (pe_un un_neg (pv 6)) pa_nil)))))))
pss_nil)))))
(pss_one (ps_ret (pe_op op_sub (pe_callTy call_int1 (by rfl) T.int (by decide +kernel) (pa_cons (pe_cmpR op_gt (pv 3) (pv 4) (nomark _)) pa_nil)) (pe_callTy call_int1 (by rfl) T.int (by decide +kernel) (pa_cons (pe_cmpR op_lt (pv 3) (pv 4) (nomark _)) pa_nil)))))))), ?_⟩
    refine RD.r_start (σ' := [some (.ref a), some (.ref b), some (.ref S), none, none, none, none]) rfl ?_
    try dsimp only [cxOf, Cx.nox, Cx.wish]
    have hrow := hR.row
    have hfr := hR.fr
    have hlq : (qs.map V.ref).length = prs.length := (List.length_map _).trans hR.len
    have hla : (ps.map V.int).length = ps.length := List.length_map _
    have hlb : (ms.map V.int).length = ms.length := List.length_map _
    have okr1 := okr.1
    have okr2 := okr.2.1
    have oka1 := oka.1
    have okb1 := okb.1
    have ca : c.toNat ^ r.toNat < far := Nat.lt_of_le_of_lt (count_far (by omega) (by omega)) (Nat.pow_lt_pow_right (by decide) (by decide))
    have cb : d.toNat ^ r.toNat < far := Nat.lt_of_le_of_lt (count_far (by omega) (by omega)) (Nat.pow_lt_pow_right (by decide) (by decide))
    have ec : ((c.toNat : Nat) : Int) = c := Int.toNat_of_nonneg (by omega)
    have ed : ((d.toNat : Nat) : Int) = d := Int.toNat_of_nonneg (by omega)
    have er : ((r.toNat : Nat) : Int) = r := Int.toNat_of_nonneg (by omega)
    have w1 : ∀ p ∈ prs, (1 ≤ p.1 ∧ p.1.toNat ≤ 2 ^ 1000) ∧ 1 ≤ p.2 ∧ p.2.toNat ≤ 2 ^ 1000 := fun p hp => by
      have h1 := okr.2.2 _ hp
      have h2 := hw _ hp
      exact ⟨⟨h1.1, h2.1⟩, Int.le_trans h1.1 h1.2, h2.2⟩
    have w2 : ∀ p ∈ swapP prs, (1 ≤ p.1 ∧ p.1.toNat ≤ 2 ^ 1000) ∧ 1 ≤ p.2 ∧ p.2.toNat ≤ 2 ^ 1000 := fun p hp => by
      have h1 := okr.2.2 _ (swapP_mem hp)
      have h2 := hw _ (swapP_mem hp)
      exact ⟨⟨Int.le_trans h1.1 h1.2, h2.2⟩, h1.1, h2.1⟩
    have wU : ∀ n, n ≤ 4 → _ := fun n hn => up_wide (r := r) (c := c) oka.2.2 okb.2.2 w1 (by omega) (by omega) hn
    have wD : ∀ n, n ≤ 4 → _ := fun n hn => up_wide (r := r) (c := d) oka.2.2 okb.2.2 w2 (by omega) (by omega) hn
    walk_at "go"
    refine ⟨c.toNat, r.toNat, by rw [ec, er]; rfl, by omega, by omega, ca, ?_⟩
    walk_at "go"
    refine ⟨d.toNat, r.toNat, by rw [ed, er]; rfl, by omega, by omega, cb, ?_⟩
    walk_at "go"
    refine OWN.r_forR ?_
    walk_at "go"
    refine OWN.r_forRx (n := prs.length) (by omega) (by omega) (fun i σ H' => ∃ (v u : Option V), σ = [some (.ref a), some (.ref b), some (.ref S), some (.int ((c.toNat ^ r.toNat * upP ps ms prs i : Nat) : Int)), some (.int ((d.toNat ^ r.toNat * upP ps ms (swapP prs) i : Nat) : Int)), v, u] ∧ H' = H) ?_ ?_ ?_
    · exact ⟨_, _, by rw [upP, upP, Nat.mul_one, Nat.mul_one], rfl⟩
    · rintro i σ H' hi ⟨v, u, rfl, rfl⟩
      have e1 := hR.len
      have hqi : qs[i]? = some (qs[i]'(by omega)) := List.getElem?_eq_getElem (by omega)
      obtain ⟨q, hq⟩ : ∃ q, qs[i]? = some q := ⟨_, hqi⟩
      obtain ⟨pr, hpr⟩ : ∃ pr, prs[i]? = some pr := ⟨_, List.getElem?_eq_getElem hi⟩
      have hqa := hR.at' i q pr hq hpr
      have aq : atI (qs.map V.ref) (i : Int) = some (V.ref q) := atI_nat (by rw [List.getElem?_map, hq]; rfl)
      obtain ⟨p, hp⟩ : ∃ p, ps.getD i 0 = p := ⟨_, rfl⟩
      obtain ⟨m, hm⟩ : ∃ m, ms.getD i 0 = m := ⟨_, rfl⟩
      have bp := pw_get oka.2.2 i
      have bm := pw_get okb.2.2 i
      rw [hp] at bp
      rw [hm] at bm
      have hp' : ps.getD ((i : Int)).toNat 0 = p := by rw [Int.toNat_natCast]; exact hp
      have hm' : ms.getD ((i : Int)).toNat 0 = m := by rw [Int.toNat_natCast]; exact hm
      have okp := okr.2.2 pr (List.mem_of_getElem? hpr)
      have wp := hw pr (List.mem_of_getElem? hpr)
      have et : ((pr.1.toNat : Nat) : Int) = pr.1 := Int.toNat_of_nonneg (by omega)
      have eb : ((pr.2.toNat : Nat) : Int) = pr.2 := Int.toNat_of_nonneg (by omega)
      have pt : 1 ≤ pr.1.toNat := by omega
      have pb : 1 ≤ pr.2.toNat := by omega
      have wt1 := wp.1
      have wt2 := wp.2
      clear wp
      have sU : c.toNat ^ r.toNat * upP ps ms prs (i + 1) = c.toNat ^ r.toNat * upP ps ms prs i * (pr.1.toNat ^ (p - m).toNat * pr.2.toNat ^ (m - p).toNat) := by rw [up_at hp hm hpr, Nat.mul_assoc]
      have sD : d.toNat ^ r.toNat * upP ps ms (swapP prs) (i + 1) = d.toNat ^ r.toNat * upP ps ms (swapP prs) i * (pr.2.toNat ^ (p - m).toNat * pr.1.toNat ^ (m - p).toNat) := by rw [up_at hp hm (swapP_get hpr), Nat.mul_assoc]
      have fU := wU i (by omega)
      have fD := wD i (by omega)
      clear wU wD
      walk_at "go"
      · rename_i hg
        rw [hp', hm'] at hg ⊢
        have eg : (((p - m).toNat : Nat) : Int) = p - m := Int.toNat_of_nonneg (by omega)
        have z0 : (m - p).toNat = 0 := by omega
        rw [z0, Nat.pow_zero, Nat.mul_one] at sU sD
        refine ⟨pr.1.toNat, (p - m).toNat, by rw [et, eg]; rfl, pt, Nat.lt_of_le_of_lt (m := 2) (by omega) (by decide), pw_far wt1 (by omega), ?_⟩
        refine RD.r_rI (mulW_ok fU (pw_far wt1 (by omega))) ?_
        walk_at "go"
        refine ⟨pr.2.toNat, (p - m).toNat, by rw [eb, eg]; rfl, pb, Nat.lt_of_le_of_lt (m := 2) (by omega) (by decide), pw_far wt2 (by omega), ?_⟩
        refine RD.r_rI (mulW_ok fD (pw_far wt2 (by omega))) ?_
        walk_at "go"
        exact ⟨_, _, by rw [sU, sD, Int.natCast_mul (_ * _), Int.natCast_mul (_ * _)], rfl⟩
      · rename_i hg1 hg
        rw [hp', hm'] at hg ⊢
        have eg : (((m - p).toNat : Nat) : Int) = -(p - m) := by omega
        have z0 : (p - m).toNat = 0 := by omega
        rw [z0, Nat.pow_zero, Nat.one_mul] at sU sD
        refine ⟨pr.2.toNat, (m - p).toNat, by rw [eb, eg]; rfl, pb, Nat.lt_of_le_of_lt (m := 2) (by omega) (by decide), pw_far wt2 (by omega), ?_⟩
        refine RD.r_rI (mulW_ok fU (pw_far wt2 (by omega))) ?_
        walk_at "go"
        refine ⟨pr.1.toNat, (m - p).toNat, by rw [et, eg]; rfl, pt, Nat.lt_of_le_of_lt (m := 2) (by omega) (by decide), pw_far wt1 (by omega), ?_⟩
        refine RD.r_rI (mulW_ok fD (pw_far wt1 (by omega))) ?_
        walk_at "go"
        exact ⟨_, _, by rw [sU, sD, Int.natCast_mul (_ * _), Int.natCast_mul (_ * _)], rfl⟩
      · rename_i hg1 hg
        rw [hp', hm'] at hg1 hg ⊢
        have z0 : (p - m).toNat = 0 := by omega
        have z1 : (m - p).toNat = 0 := by omega
        simp only [z0, z1, Nat.pow_zero, Nat.mul_one] at sU sD
        exact ⟨_, _, by rw [sU, sD], rfl⟩
    · rintro σ H' ⟨v, u, rfl, rfl⟩
      walk_at "go"
      rw [cmp_int, Nat.mul_comm (c.toNat ^ r.toNat), Nat.mul_comm (d.toNat ^ r.toNat)]
      exact k
end
end

theorem mkLen {H : Hp} {C B l : Addr} {c : Int} {ps : List Int} {Q : VK} {E : XK} (hl : H l = some (.lst (ps.map V.int)) ∨ H l = some (.tup (ps.map V.int))) (hz : ps.length ≤ 1000)
    (k1 : okLen c ps → ∀ x H', LenAt H' C x c ps → (∀ b o, H b = some o → H' b = some o) → H x = none → Q (.ref x) H') (k2 : ¬ okLen c ps → ∀ H', (∀ b o, H b = some o → H' b = some o) → E (.ref B) none H') :
    RD.rMake C (spLenInit C B) [] E [.int c, .ref l] H Q := by
  intro x dx hx hdx hne
  have ex : ∀ b o, H b = some o → (upd (upd H dx (.own x)) x (.ins C dx [])) b = some o := fun b o e => by
    rw [upd_ne (ne_of_none e hx), upd_ne (ne_of_none e hdx)]; exact e
  exact ⟨x, dx, l, c, ps, rfl, upd_same, hl.imp (ex _ _) (ex _ _), hz, fun ok H' hL hk => ⟨rfl, k1 ok x H' hL (fun b o e => hk b o (ne_of_none e hx) (ex b o e)) hx⟩, fun no H' hk => k2 no H' fun b o e => hk b o (ex b o e)⟩
theorem exm_of {K : PySem.W.Frag} {S c : Addr} {b : Bool} (h1 : PySem.W.subIn K (.ref c) (.type "BaseException") = some true) (h2 : PySem.W.isClsIn K c = true) (h3 : PySem.W.typeIn K (.ref c) = some (.type "type")) (h4 : PySem.W.subIn K (.ref S) (.ref c) = some b) :
    PySem.W.exmOne K (.ref S) (.ref c) = some b := by
  unfold PySem.W.exmOne PySem.W.kitCls
  have h2' : (PySem.W.clsIn K c).isSome = true := h2
  simp [h1, h2', h3, h4]
theorem kit_self {K : PySem.W.Frag} {C : Addr} : PySem.W.kitOne K (.ref C) (.ref C) = some true := by
  unfold PySem.W.kitOne
  simp
theorem lenF_no {m : Str} {c : Int} {q : Addr} (h1 : (m == ("count" : Str)) = false) (h2 : (m == ("powers" : Str)) = false) : (lenF c q).lookup m = none := by
  unfold lenF; simp [List.lookup, h1, h2]

local macro_rules | `(tactic| walk_at "nolk") => `(tactic| exact lenF_no (by decide +kernel) (by decide +kernel))

/-! ### what the program tells -/
abbrev sLTold : Stmt := top 26
def spLTold : Sp := fun vs H Q _ => ∃ (a b t u S F : Addr) (c d r : Int) (ps ms : List Int) (qs : List Addr) (prs : List (Int × Int)), vs = [.ref a, .ref b, .ref S] ∧ PlnAt H a t c ps ∧ PlnAt H b u d ms ∧ okLen c ps ∧ okLen d ms ∧ RowAt H S F r qs prs ∧ wide prs ∧
  (okRow r prs → ps.length = prs.length → ms.length = prs.length → ∀ T H', H' T = some (.tup [.str "told", .int (wOf c d ps ms r prs)]) → (∀ b o, H b = some o → H' b = some o) → Q (.ref T) H') ∧
  (¬ okRow r prs → ∀ T H', H' T = some (.tup [.str "BadShares", .non]) → (∀ b o, H b = some o → H' b = some o) → Q (.ref T) H') ∧
  (okRow r prs → ¬ (ps.length = prs.length ∧ ms.length = prs.length) → ∀ T H', H' T = some (.tup [.str "Mismatch", .non]) → (∀ b o, H b = some o → H' b = some o) → Q (.ref T) H')
section
variable {P : Program} {w : World} {K : PySem.W.Frag} {mg : Str → Option Value} {base : Heap}
theorem scLTold : FnScope ["_law_left", "_law_right", "_law_row"] ["_law_left", "_law_right", "_law_row"] (defScope sLTold) := ⟨rfl, rfl, rfl, by decide +kernel, rfl, by decide +kernel, by decide +kernel⟩
theorem ok_ltold {f fI fV C B S M : Addr} {mc um ud : Value} {fd fdI fdV : FuncData} (F : Fun K "_law_told" "_law_told" sLTold f fd) (TL : TxLen K mg C mc um ud) (TS : TxErr K mg "BadShares" S) (TMi : TxErr K mg "Mismatch" M)
    (eSS : PySem.W.exmOne K (.ref S) (.ref S) = some true) (eMS : PySem.W.exmOne K (.ref M) (.ref S) = some false) (eMM : PySem.W.exmOne K (.ref M) (.ref M) = some true)
    (MI : Mk K C fI) (GI : FnOk P w K mg base (L2.CX P w) 1 fI fdI ["self", "count", "powers"] (spLenInit C B)) (bI : Binds K fdI ["self", "count", "powers"] [])
    (GV : FnOk P w K mg base (L2.CX P w) 4 fV fdV ["left", "right", "shares"] (spWgh C S M)) (mgV : mg "weigh" = some (.ref fV)) (kV : PySem.W.keepIn K (.ref fV) = true) (bV : Binds K fdV ["left", "right", "shares"] []) :
    FnOk P w K mg base CX0 5 f fd ["_law_left", "_law_right", "_law_row"] spLTold := by
  refine F.ok scLTold (fun vs H Q E h => ?_) (fun cdv A outer s H vs Q E hr h => ?_)
  · obtain ⟨a, b, t, u, S, F, c, d, r, ps, ms, qs, prs, rfl, _⟩ := h
    rfl
  · obtain ⟨a, b, t, u, Z, F, c, d, r, ps, ms, qs, prs, rfl, ⟨ha, ht⟩, ⟨hb, hu⟩, oka, okb, hR, hw, k1, k2, k3⟩ := h
    have nd := scLTold.nd
    have hr2 : Room 2 _ := hr.mono (by decide)
    refine ⟨_, (pss_one (ps_try_many rfl rfl takes_none5 (fun W pn xe tk _ => (pss_one (ps_ret (pe_tup (pa_cons pe_str (pa_cons (pe_callS GV hr (by rfl) mgV kV bV (passAt tk) (pa_cons (pe_make MI GI hr2 rfl TL.g bI .nil passL (pa_cons (pe_ix (show IxR _ (rIxT K) from ix_tup) (pv 0) pe_int (fun _ _ => rfl)) (pa_cons (pe_ix (show IxR _ (rIxT K) from ix_tup) (pv 0) pe_int (fun _ _ => rfl)) pa_nil))) (pa_cons (pe_make MI GI hr2 rfl TL.g bI .nil passL (pa_cons (pe_ix (show IxR _ (rIxT K) from ix_tup) (pv 1) pe_int (fun _ _ => rfl)) (pa_cons (pe_ix (show IxR _ (rIxT K) from ix_tup) (pv 1) pe_int (fun _ _ => rfl)) pa_nil))) (pa_cons (pv 2) pa_nil)))) pa_nil)))))) (.cons ⟨rfl, by decide, .inl TS.g⟩ (fun a oe cls d pn _ _ => (pss_one (ps_ret (pe_tup (pa_cons pe_str (pa_cons pe_non pa_nil)))))) (.cons ⟨rfl, by decide, .inl TMi.g⟩ (fun a oe cls d pn _ _ => (pss_one (ps_ret (pe_tup (pa_cons pe_str (pa_cons pe_non pa_nil)))))) .nil)))), ?_⟩
    refine RD.r_start (σ' := [some (.ref a), some (.ref b), some (.ref Z)]) rfl ?_
    dsimp only [cxOf, Cx.nox, Cx.wish]
    have la := oka.2.1
    have lb := okb.2.1
    walk_at "go"
    refine mkLen (.inr ht) (by omega) (fun _ x H1 hL1 e1 _ => ?_) (fun no => absurd oka no)
    have hb1 := e1 _ _ hb
    have hu1 := e1 _ _ hu
    walk_at "go"
    refine mkLen (.inr hu1) (by omega) (fun _ y H2 hL2 e2 _ => ?_) (fun no => absurd okb no)
    have e12 : ∀ b o, H b = some o → H2 b = some o := fun b o e => e2 _ _ (e1 _ _ e)
    walk_at "go"
    refine ⟨x, y, Z, F, c, d, r, ps, ms, qs, prs, rfl, hL1.ext e2, hL2, oka, okb, hR.ext e12, hw, fun o l1 l2 H3 e3 => ?_, fun no H3 e3 => ⟨true, eSS, fun _ a0 ha0 => ?_, (fun q => nomatch q)⟩, fun o no H3 e3 => ⟨false, eMS, (fun q => nomatch q), fun _ => ⟨true, eMM, fun _ a0 ha0 => ?_, (fun q => nomatch q)⟩⟩⟩
    all_goals walk_at "go"
    all_goals rename_i l hl
    all_goals first
      | exact k1 o l1 l2 l _ upd_same (fun x o e => RD.upd_new hl (e3 _ _ (e12 x o e)))
      | exact k2 no l _ upd_same (fun x o e => RD.upd_new hl (e3 _ _ (e12 x o e)))
      | exact k3 o no l _ upd_same (fun x o e => RD.upd_new hl (e3 _ _ (e12 x o e)))
end

/-! ### the law k06 -/
abbrev sLaw : Stmt := top 27
/-- a list of pairs -/
structure PrsAt (H : Hp) (L : Addr) (qs : List Addr) (prs : List (Int × Int)) : Prop where
  fr : H L = some (.lst (qs.map V.ref))
  len : qs.length = prs.length
  at' : ∀ (j : Nat) (q : Addr) (pr : Int × Int), qs[j]? = some q → prs[j]? = some pr → H q = some (.tup [.int pr.1, .int pr.2])
theorem PrsAt.ext {H H' : Hp} {L : Addr} {qs : List Addr} {prs : List (Int × Int)} (h : PrsAt H L qs prs) (k : ∀ b o, H b = some o → H' b = some o) : PrsAt H' L qs prs := ⟨k _ _ h.fr, h.len, fun j q pr e1 e2 => k _ _ (h.at' j q pr e1 e2)⟩
theorem PrsAt.app {H : Hp} {L T : Addr} {t b : Int} {qs : List Addr} {prs : List (Int × Int)} (h : PrsAt H L qs prs) (hT : H T = some (.tup [.int t, .int b])) : PrsAt (upd H L (.lst (qs.map V.ref ++ [V.ref T]))) L (qs ++ [T]) (prs ++ [(t, b)]) := by
  have nt : ∀ {q : Addr} {xs : List V}, H q = some (.tup xs) → q ≠ L := fun hq e => by rw [e, h.fr] at hq; cases hq
  refine ⟨?_, ?_, fun j q pr e1 e2 => ?_⟩
  · rw [upd_same, List.map_append]; rfl
  · rw [List.length_append, List.length_append, h.len]; rfl
  · have hq : H q = some (.tup [.int pr.1, .int pr.2]) := by
      by_cases hj : j < qs.length
      · rw [List.getElem?_append_left hj] at e1
        rw [List.getElem?_append_left (by rw [← h.len]; exact hj)] at e2
        exact h.at' j q pr e1 e2
      · rw [List.getElem?_append_right (by omega)] at e1
        rw [List.getElem?_append_right (by rw [← h.len]; omega)] at e2
        have i1 := (List.getElem?_eq_some_iff.mp e1).1
        have z : j - qs.length = 0 := by rw [List.length_singleton] at i1; omega
        have z2 : j - prs.length = 0 := by rw [← h.len]; exact z
        rw [z] at e1; rw [z2] at e2
        cases e1; cases e2
        exact hT
    rw [upd_ne (nt hq)]; exact hq
def firstN (f : Nat → Int × Int) (n : Nat) : List (Int × Int) := (List.range n).map f
theorem firstN_succ (f : Nat → Int × Int) (n : Nat) : firstN f (n + 1) = firstN f n ++ [f n] := by unfold firstN; rw [List.range_succ, List.map_append]; rfl
theorem firstN_len (f : Nat → Int × Int) (n : Nat) : (firstN f n).length = n := by simp [firstN]
theorem firstN_mem {f : Nat → Int × Int} {n : Nat} {x : Int × Int} (h : x ∈ firstN f n) : ∃ i, i < n ∧ x = f i := by
  obtain ⟨i, hi, rfl⟩ := List.mem_map.mp h
  exact ⟨i, List.mem_range.mp hi, rfl⟩
/-- what the law holds: two plain lengths, and the pairs at L -/
structure Bx (H : Hp) (q1 t1 : Addr) (c1 : Int) (ps : List Int) (q2 t2 : Addr) (c2 : Int) (ms : List Int) (L : Addr) (qs : List Addr) (prs : List (Int × Int)) : Prop where
  a : PlnAt H q1 t1 c1 ps
  b : PlnAt H q2 t2 c2 ms
  ok1 : okLen c1 ps
  ok2 : okLen c2 ms
  pr : PrsAt H L qs prs
section
variable {H H' : Hp} {p c q1 t1 q2 t2 L : Addr} {c1 c2 : Int} {ps ms ns : List Int} {qs : List Addr} {prs : List (Int × Int)} {n : Nat}
theorem PoolAt.lst (h : PoolAt H p c ns n) : ∃ xs, H p = some (.lst xs) := let ⟨⟨_, _, _, hp, _⟩, _, _⟩ := h; ⟨_, hp⟩
theorem PoolAt.ntup {q : Addr} {xs : List V} (h : PoolAt H p c ns n) (hq : H q = some (.tup xs)) : q ≠ p := fun e => by
  obtain ⟨ys, hy⟩ := h.lst
  rw [e, hy] at hq; cases hq
theorem Bx.mv (h : Bx H q1 t1 c1 ps q2 t2 c2 ms L qs prs) (hP : PoolAt H p c ns n) (hLp : L ≠ p) (k : ∀ b o, b ≠ p → H b = some o → H' b = some o) : Bx H' q1 t1 c1 ps q2 t2 c2 ms L qs prs :=
  ⟨⟨k _ _ (hP.ntup h.a.hq) h.a.hq, k _ _ (hP.ntup h.a.ht) h.a.ht⟩, ⟨k _ _ (hP.ntup h.b.hq) h.b.hq, k _ _ (hP.ntup h.b.ht) h.b.ht⟩, h.ok1, h.ok2,
    ⟨k _ _ hLp h.pr.fr, h.pr.len, fun j q pr e1 e2 => k _ _ (hP.ntup (h.pr.at' j q pr e1 e2)) (h.pr.at' j q pr e1 e2)⟩⟩
theorem Bx.ext (h : Bx H q1 t1 c1 ps q2 t2 c2 ms L qs prs) (k : ∀ b o, H b = some o → H' b = some o) : Bx H' q1 t1 c1 ps q2 t2 c2 ms L qs prs :=
  ⟨h.a.ext k, h.b.ext k, h.ok1, h.ok2, ⟨k _ _ h.pr.fr, h.pr.len, fun j q pr e1 e2 => k _ _ (h.pr.at' j q pr e1 e2)⟩⟩
theorem Bx.new {l : Addr} {o : HO} (h : Bx H q1 t1 c1 ps q2 t2 c2 ms L qs prs) (hl : H l = none) : Bx (upd H l o) q1 t1 c1 ps q2 t2 c2 ms L qs prs := h.ext fun b o e => RD.upd_new hl e
theorem Bx.take (h : Bx H q1 t1 c1 ps q2 t2 c2 ms L qs prs) (hP : PoolAt H p c ns n) (hLp : L ≠ p) (k : ∀ b, b ≠ p → H' b = H b) : Bx H' q1 t1 c1 ps q2 t2 c2 ms L qs prs := h.mv hP hLp fun b o hb e => (k b hb).trans e
/-- one more pair -/
theorem Bx.app {T : Addr} {t b : Int} (h : Bx H q1 t1 c1 ps q2 t2 c2 ms L qs prs) (hT : H T = some (.tup [.int t, .int b])) : Bx (upd H L (.lst (qs.map V.ref ++ [V.ref T]))) q1 t1 c1 ps q2 t2 c2 ms L (qs ++ [T]) (prs ++ [(t, b)]) := by
  have nt : ∀ {q : Addr} {xs : List V}, H q = some (.tup xs) → q ≠ L := fun hq e => by rw [e, h.pr.fr] at hq; cases hq
  refine ⟨⟨?_, ?_⟩, ⟨?_, ?_⟩, h.ok1, h.ok2, ⟨?_, ?_, fun j q pr e1 e2 => ?_⟩⟩
  · rw [upd_ne (nt h.a.hq)]; exact h.a.hq
  · rw [upd_ne (nt h.a.ht)]; exact h.a.ht
  · rw [upd_ne (nt h.b.hq)]; exact h.b.hq
  · rw [upd_ne (nt h.b.ht)]; exact h.b.ht
  · rw [upd_same, List.map_append]; rfl
  · rw [List.length_append, List.length_append, h.pr.len]; rfl
  · have hq : H q = some (.tup [.int pr.1, .int pr.2]) := by
      by_cases hj : j < qs.length
      · rw [List.getElem?_append_left hj] at e1
        rw [List.getElem?_append_left (by rw [← h.pr.len]; exact hj)] at e2
        exact h.pr.at' j q pr e1 e2
      · rw [List.getElem?_append_right (by omega)] at e1
        rw [List.getElem?_append_right (by rw [← h.pr.len]; omega)] at e2
        have i1 := (List.getElem?_eq_some_iff.mp e1).1
        have z : j - qs.length = 0 := by rw [List.length_singleton] at i1; omega
        have z2 : j - prs.length = 0 := by rw [← h.pr.len]; exact z
        rw [z] at e1; rw [z2] at e2
        cases e1; cases e2
        exact hT
    rw [upd_ne (nt hq)]; exact hq
/-- a pair put at a place -/
theorem Bx.set {T : Addr} {t b : Int} {i : Nat} (h : Bx H q1 t1 c1 ps q2 t2 c2 ms L qs prs) (hT : H T = some (.tup [.int t, .int b])) (hi : i < prs.length) : Bx (upd H L (.lst ((qs.map V.ref).set i (V.ref T)))) q1 t1 c1 ps q2 t2 c2 ms L (qs.set i T) (prs.set i (t, b)) := by
  have nt : ∀ {q : Addr} {xs : List V}, H q = some (.tup xs) → q ≠ L := fun hq e => by rw [e, h.pr.fr] at hq; cases hq
  refine ⟨⟨?_, ?_⟩, ⟨?_, ?_⟩, h.ok1, h.ok2, ⟨?_, ?_, fun j q pr e1 e2 => ?_⟩⟩
  · rw [upd_ne (nt h.a.hq)]; exact h.a.hq
  · rw [upd_ne (nt h.a.ht)]; exact h.a.ht
  · rw [upd_ne (nt h.b.hq)]; exact h.b.hq
  · rw [upd_ne (nt h.b.ht)]; exact h.b.ht
  · rw [upd_same, List.map_set]
  · rw [List.length_set, List.length_set, h.pr.len]
  · have hq : H q = some (.tup [.int pr.1, .int pr.2]) := by
      by_cases hj : j = i
      · subst hj
        rw [List.getElem?_set_self (by rw [h.pr.len]; exact hi)] at e1
        rw [List.getElem?_set_self hi] at e2
        cases e1; cases e2
        exact hT
      · rw [List.getElem?_set_ne (Ne.symm hj)] at e1
        rw [List.getElem?_set_ne (Ne.symm hj)] at e2
        exact h.pr.at' j q pr e1 e2
    rw [upd_ne (nt hq)]; exact hq
end
def Good (prs : List (Int × Int)) : Prop := (1 ≤ prs.length ∧ prs.length ≤ 4) ∧ ∀ p ∈ prs, (1 ≤ p.1 ∧ p.1 ≤ p.2) ∧ p.2 ≤ 50
/-- behind the j-th way to spoil -/
def InvS (a p c : Addr) (ns : List Int) (m0 un : Int) (v6 : Option V) (q1 t1 : Addr) (c1 : Int) (ps : List Int) (q2 t2 : Addr) (c2 : Int) (ms : List Int) (sp j : Int) (σ : L2.St) (H : Hp) : Prop :=
  ∃ (L : Addr) (qs : List Addr) (prs : List (Int × Int)) (root bt : Int) (k : Nat), σ = [some (.ref a), some (.ref p), some (.int (1 + m0)), some (.ref q1), some (.ref q2), some (.ref L), v6, some (.int bt), some (.int root), some (.int un), some (.int sp), some (.int (k : Int)), none, none] ∧
    Bx H q1 t1 c1 ps q2 t2 c2 ms L qs prs ∧ L ≠ p ∧ L ≠ c ∧ PoolAt H p c ns (200 + 2 * j.toNat) ∧ wide prs ∧ (1 ≤ sp ∧ sp ≤ j → ¬ okRow root prs) ∧ (¬ (1 ≤ sp ∧ sp ≤ j) → (root = 1 ∨ root = 2 ∨ root = 1000) ∧ Good prs ∧ k < prs.length ∧ 1 ≤ bt ∧ bt ≤ 50)
theorem InvS.skip {a p c : Addr} {ns : List Int} {m0 un : Int} {v6 : Option V} {q1 t1 : Addr} {c1 : Int} {ps : List Int} {q2 t2 : Addr} {c2 : Int} {ms : List Int} {sp j j' : Int} {σ : L2.St} {H : Hp} (h : InvS a p c ns m0 un v6 q1 t1 c1 ps q2 t2 c2 ms sp j σ H) (e : j' = j + 1) (j0 : 0 ≤ j) (ne : ¬ sp = j') :
    InvS a p c ns m0 un v6 q1 t1 c1 ps q2 t2 c2 ms sp j' σ H := by
  obtain ⟨L, qs, prs, root, bt, k, h1, h2, h3, h4, h5, h6, h7, h8⟩ := h
  exact ⟨L, qs, prs, root, bt, k, h1, h2, h3, h4, PoolAt.mono h5 (by omega), h6, fun h => h7 (by omega), fun h => h8 (by omega)⟩
theorem small_wide {prs : List (Int × Int)} (h : ∀ p ∈ prs, p.1 ≤ 1000 ∧ p.2 ≤ 1000) : wide prs := fun p hp => by
  have := h p hp
  exact ⟨Nat.le_trans (m := 2 ^ 10) (Nat.le_trans (m := 1000) (by omega) (by decide)) (Nat.pow_le_pow_right (by decide) (by decide)), Nat.le_trans (m := 2 ^ 10) (Nat.le_trans (m := 1000) (by omega) (by decide)) (Nat.pow_le_pow_right (by decide) (by decide))⟩
theorem Good.wide {prs : List (Int × Int)} (h : Good prs) : wide prs := small_wide fun p hp => by
  have := h.2 p hp
  omega
theorem Good.ok {prs : List (Int × Int)} {root : Int} (h : Good prs) (hr : root = 1 ∨ root = 2 ∨ root = 1000) : okRow root prs := ⟨by omega, h.1, fun p hp => (h.2 p hp).1⟩
theorem set_bad {prs : List (Int × Int)} {root : Int} {k : Nat} {x : Int × Int} (hk : k < prs.length) (hx : ¬ (1 ≤ x.1 ∧ x.1 ≤ x.2)) : ¬ okRow root (prs.set k x) := fun h => hx (h.2.2 x (List.mem_set hk x))
theorem set_wide {prs : List (Int × Int)} {k : Nat} {x : Int × Int} (h : Good prs) (hx : x.1 ≤ 1000 ∧ x.2 ≤ 1000) : wide (prs.set k x) := small_wide fun p hp => by
  rcases List.mem_or_eq_of_mem_set hp with q | q
  · have := h.2 p q; omega
  · rw [q]; exact hx
theorem scLaw : FnScope ["_law_script", "_law_pool_here", "_law_many", "_law_left", "_law_right", "_law_pairs", "_law_k", "_law_bottom", "_law_root", "_law_unlike", "_law_spoil", "_law_at", "_law_kind", "_law_answer"] ["_law_script"] (defScope sLaw) := ⟨rfl, rfl, rfl, by decide +kernel, rfl, by decide +kernel, by decide +kernel⟩
def spLaw (K : PySem.W.Frag) : Sp := fun vs H Q _ => ∃ (a : Addr) (ns : List Int), vs = [.ref a] ∧ SqL K H a (ns.map V.int) ∧ ns.length ≤ 63 ∧ ∀ H', Q (.bl true) H'
section
variable {P : Program} {w : World} {K : PySem.W.Frag} {mg : Str → Option Value} {base : Heap}
theorem ok_law {f fP fT fW fL fX fZ : Addr} {fd fdP fdT fdW fdL fdX fdZ : FuncData} (F : Fun K "law" "law" sLaw f fd) (T : TxB mg)
    (GP : FnOk P w K mg base CX0 1 fP fdP ["_law_script"] (spPool K)) (bP : Binds K fdP ["_law_script"] []) (mgP : mg "_law_pool" = some (.ref fP)) (kP : PySem.W.keepIn K (.ref fP) = true)
    (GT : FnOk P w K mg base CX0 1 fT fdT ["_law_pool_here", "_law_size"] spTake) (bT : Binds K fdT ["_law_pool_here", "_law_size"] []) (mgT : mg "_law_take" = some (.ref fT)) (kT : PySem.W.keepIn K (.ref fT) = true)
    (GW : FnOk P w K mg base CX0 1 fW fdW ["_law_x"] spWhole) (bW : Binds K fdW ["_law_x"] []) (mgW : mg "_law_whole" = some (.ref fW)) (kW : PySem.W.keepIn K (.ref fW) = true)
    (GL : FnOk P w K mg base CX0 2 fL fdL ["_law_pool_here", "_law_many"] spLLen) (bL : Binds K fdL ["_law_pool_here", "_law_many"] []) (mgL : mg "_law_length" = some (.ref fL)) (kL : PySem.W.keepIn K (.ref fL) = true)
    (GX : FnOk P w K mg base CX0 5 fX fdX ["_law_left", "_law_right", "_law_row"] spLTold) (bX : Binds K fdX ["_law_left", "_law_right", "_law_row"] []) (mgX : mg "_law_told" = some (.ref fX)) (kX : PySem.W.keepIn K (.ref fX) = true)
    (GZ : FnOk P w K mg base CX0 2 fZ fdZ ["_law_left", "_law_right", "_law_row"] spLWgh) (bZ : Binds K fdZ ["_law_left", "_law_right", "_law_row"] []) (mgZ : mg "_law_weigh" = some (.ref fZ)) (kZ : PySem.W.keepIn K (.ref fZ) = true) :
    FnOk P w K mg base CX0 6 f fd ["_law_script"] (spLaw K) := by
  refine F.ok scLaw (fun vs H Q E h => ?_) (fun cdv A outer s H vs Q E hr h => ?_)
  · obtain ⟨a, ns, rfl, _⟩ := h
    rfl
  · obtain ⟨a, ns, rfl, hS, hlen, kQ⟩ := h
    have nd := scLaw.nd
    have hr1 : Room 1 _ := hr.mono (by decide)
    have hr2 : Room 2 _ := hr.mono (by decide)
    refine ⟨_, (pss_cons (ps_set (i := 1) nd rfl (Or.inl rfl) (pe_call GP hr1 (by rfl) mgP kP bP .nil pass0 (pa_cons (pv 0) pa_nil)))
(pss_cons (ps_set (i := 2) nd rfl (Or.inl rfl) (pe_op op_add pe_int (pe_call GT hr1 (by rfl) mgT kT bT .nil pass0 (pa_cons (pv 1) (pa_cons pe_int pa_nil)))))
(pss_cons (ps_set (i := 3) nd rfl (Or.inl rfl) (pe_call GL hr2 (by rfl) mgL kL bL .nil pass0 (pa_cons (pv 1) (pa_cons (pv 2) pa_nil))))
(pss_cons (ps_set (i := 4) nd rfl (Or.inl rfl) (pe_call GL hr2 (by rfl) mgL kL bL .nil pass0 (pa_cons (pv 1) (pa_cons (pv 2) pa_nil))))
(pss_cons (ps_set (i := 5) nd rfl (Or.inl rfl) (pe_lst pa_nil))
(pss_cons (ps_for PassesOwn.never rfl (pi_range1 (by rfl) T.range (pa_cons (pv 2) pa_nil)) (pg_name (i := 6) nd rfl (Or.inl rfl))
(pss_cons (ps_set (i := 7) nd rfl (Or.inl rfl) (pe_op op_add pe_int (pe_call GT hr1 (by rfl) mgT kT bT .nil pass0 (pa_cons (pv 1) (pa_cons pe_int pa_nil)))))
(pss_one (ps_expr (pe_bm PySem.F.plainAttrs_list PySem.F.slot_list_append PySem.F.type_list_append mt_append (pv 5) (pa_cons (pe_tup (pa_cons (pe_op op_sub (pv 7) (pe_op op_mul (pe_callTy call_int1 (by rfl) T.int (by decide +kernel) (pa_cons (pe_cmpR op_eq (pe_call GT hr1 (by rfl) mgT kT bT .nil pass0 (pa_cons (pv 1) (pa_cons pe_int pa_nil))) pe_int (nomark _)) pa_nil)) (pe_call GT hr1 (by rfl) mgT kT bT .nil pass0 (pa_cons (pv 1) (pa_cons (pv 7) pa_nil))))) (pa_cons (pv 7) pa_nil))) pa_nil))))))
(pss_cons (ps_set (i := 8) nd rfl (Or.inl rfl) (pe_ix ix_list (pe_lst (pa_cons pe_int (pa_cons pe_int (pa_cons pe_int pa_nil)))) (pe_call GT hr1 (by rfl) mgT kT bT .nil pass0 (pa_cons (pv 1) (pa_cons pe_int pa_nil))) (fun _ _ => rfl)))
(pss_cons (ps_set (i := 9) nd rfl (Or.inl rfl) (pe_call GT hr1 (by rfl) mgT kT bT .nil pass0 (pa_cons (pv 1) (pa_cons pe_int pa_nil))))
(C8.pss_cut (ps_if (pt_cmpR op_eq (pv 9) pe_int (nomark _))
(pss_one (ps_set (i := 3) nd rfl (Or.inl rfl) (pe_call GL hr2 (by rfl) mgL kL bL .nil pass0 (pa_cons (pv 1) (pa_cons (pe_op op_add pe_int (pe_op op_mod (pe_callTy call_int1 (by rfl) T.int (by decide +kernel) (pa_cons (pe_op op_add (pv 2) (pe_call GT hr1 (by rfl) mgT kT bT .nil pass0 (pa_cons (pv 1) (pa_cons pe_int pa_nil)))) pa_nil)) pe_int)) pa_nil)))))
pss_nil)
(C8.pss_cut (ps_if (pt_cmpR op_eq (pv 9) pe_int (nomark _))
(pss_one (ps_set (i := 4) nd rfl (Or.inl rfl) (pe_call GL hr2 (by rfl) mgL kL bL .nil pass0 (pa_cons (pv 1) (pa_cons (pe_op op_add pe_int (pe_op op_mod (pe_callTy call_int1 (by rfl) T.int (by decide +kernel) (pa_cons (pe_op op_add (pv 2) (pe_call GT hr1 (by rfl) mgT kT bT .nil pass0 (pa_cons (pv 1) (pa_cons pe_int pa_nil)))) pa_nil)) pe_int)) pa_nil)))))
pss_nil)
(C8.pss_cut (ps_if (pt_cmpR op_eq (pv 9) pe_int (nomark _))
(pss_one (ps_setLc (i := 5) (own := [("_law_k", 6)]) (g := gName 6) (tt := tYes) rfl nd rfl rfl (sw_true rfl rfl rfl (by decide +kernel)) (pi_range1 (by rfl) T.range (pa_cons (pe_op op_add pe_int (pe_op op_mod (pe_callTy call_int1 (by rfl) T.int (by decide +kernel) (pa_cons (pe_op op_add (pv 2) (pe_call GT hr1 (by rfl) mgT kT bT .nil pass0 (pa_cons (pv 1) (pa_cons pe_int pa_nil)))) pa_nil)) pe_int)) pa_nil)) (blkOk_by (N := ["_law_script", "_law_pool_here", "_law_many", "_law_left", "_law_right", "_law_pairs", "_law_k", "_law_bottom", "_law_root", "_law_unlike", "_law_spoil", "_law_at", "_law_kind", "_law_answer"]) (sc := defScope sLaw) (by decide +kernel)) (fun _ _ _ _ _ => pg_name (i := 6) nd rfl (Or.inl rfl)) (fun _ _ _ _ _ => pts_nil) (fun _ _ _ _ _ => (pe_tup (pa_cons pe_int (pa_cons pe_int pa_nil))))))
pss_nil)
(pss_cons (ps_set (i := 10) nd rfl (Or.inl rfl) (pe_call GT hr1 (by rfl) mgT kT bT .nil pass0 (pa_cons (pv 1) (pa_cons pe_int pa_nil))))
(pss_cons (ps_set (i := 11) nd rfl (Or.inl rfl) (pe_call GT hr1 (by rfl) mgT kT bT .nil pass0 (pa_cons (pv 1) (pa_cons (pe_callB call_len_seq (by rfl) T.len PySem.boot_len (pa_cons (pv 5) pa_nil)) pa_nil))))
(pss_cons (ps_set (i := 7) nd rfl (Or.inl rfl) (pe_ix ix_tup (pe_ix ix_list (pv 5) (pv 11) (fun _ _ => rfl)) pe_int (fun _ _ => rfl)))
(C8.pss_cut (ps_if (pt_cmpR op_eq (pv 10) pe_int (nomark _))
(pss_one (ps_set (i := 8) nd rfl (Or.inl rfl) (pe_ix ix_list (pe_lst (pa_cons pe_int (pa_cons (pe_un un_neg pe_int) (pa_cons pe_int (pa_cons pe_int (pa_cons pe_int (pa_cons pe_int pa_nil))))))) (pe_call GT hr1 (by rfl) mgT kT bT .nil pass0 (pa_cons (pv 1) (pa_cons pe_int pa_nil))) (fun _ _ => rfl))))
pss_nil)
(C8.pss_cut (ps_if (pt_cmpR op_eq (pv 10) pe_int (nomark _))
(pss_one (ps_set (i := 5) nd rfl (Or.inl rfl) (pe_lst pa_nil)))
pss_nil)
(C8.pss_cut (ps_if (pt_cmpR op_eq (pv 10) pe_int (nomark _))
(pss_one (ps_setLc (i := 5) (own := [("_law_k", 6)]) (g := gName 6) (tt := tYes) rfl nd rfl rfl (sw_true rfl rfl rfl (by decide +kernel)) (pi_range1 (by rfl) T.range (pa_cons (pe_op op_add pe_int (pe_call GT hr1 (by rfl) mgT kT bT .nil pass0 (pa_cons (pv 1) (pa_cons pe_int pa_nil)))) pa_nil)) (blkOk_by (N := ["_law_script", "_law_pool_here", "_law_many", "_law_left", "_law_right", "_law_pairs", "_law_k", "_law_bottom", "_law_root", "_law_unlike", "_law_spoil", "_law_at", "_law_kind", "_law_answer"]) (sc := defScope sLaw) (by decide +kernel)) (fun _ _ _ _ _ => pg_name (i := 6) nd rfl (Or.inl rfl)) (fun _ _ _ _ _ => pts_nil) (fun _ _ _ _ _ => (pe_tup (pa_cons pe_int (pa_cons (pe_op op_add pe_int (pv 6)) pa_nil))))))
pss_nil)
(C8.pss_cut (ps_if (pt_cmpR op_eq (pv 10) pe_int (nomark _))
(pss_one (ps_asg (pe_tup (pa_cons pe_int (pa_cons (pv 7) pa_nil))) (pg_sub (pv 5) (pv 11) set_list)))
pss_nil)
(C8.pss_cut (ps_if (pt_cmpR op_eq (pv 10) pe_int (nomark _))
(pss_one (ps_asg (pe_tup (pa_cons (pe_un un_neg (pv 7)) (pa_cons (pv 7) pa_nil))) (pg_sub (pv 5) (pv 11) set_list)))
pss_nil)
(C8.pss_cut (ps_if (pt_cmpR op_eq (pv 10) pe_int (nomark _))
(pss_one (ps_asg (pe_tup (pa_cons (pe_op op_add (pv 7) pe_int) (pa_cons (pv 7) pa_nil))) (pg_sub (pv 5) (pv 11) set_list)))
pss_nil)
(C8.pss_cut (ps_if (pt_cmpR op_eq (pv 10) pe_int (nomark _))
(pss_one (ps_asg (pe_tup (pa_cons (pe_un un_neg (pv 7)) (pa_cons (pe_un un_neg (pv 7)) pa_nil))) (pg_sub (pv 5) (pv 11) set_list)))
pss_nil)
(C8.pss_cut (ps_if (pt_cmpR op_eq (pv 10) pe_int (nomark _))
(pss_one (ps_asg (pe_tup (pa_cons pe_int (pa_cons pe_int pa_nil))) (pg_sub (pv 5) (pv 11) set_list)))
pss_nil)
(pss_cons (ps_asg (pe_call GX hr (by rfl) mgX kX bX .nil pass0 (pa_cons (pv 3) (pa_cons (pv 4) (pa_cons (pe_tup (pa_cons (pv 8) (pa_cons (pe_callTy call_tuple_of (by rfl) T.tuple (by decide +kernel) (pa_cons (pv 5) pa_nil)) pa_nil))) pa_nil)))) (pg_tup rfl (pgs_cons (pg_name (i := 12) nd rfl (Or.inl rfl)) (pgs_cons (pg_name (i := 13) nd rfl (Or.inl rfl)) pgs_nil))))
(pss_cons (ps_if (pt_chain op_le op_le pe_int (pv 10) pe_int)
(pss_one (ps_ret (pe_cmpR op_eq (pv 12) pe_str (nomark _))))
pss_nil)
(pss_cons (ps_if (PW.pt (pw_or (pt_cmpR op_ne (pe_callB call_len_seq (by rfl) T.len PySem.boot_len (pa_cons (pe_ix ix_tup (pv 3) pe_int (fun _ _ => rfl)) pa_nil)) (pe_callB call_len_seq (by rfl) T.len PySem.boot_len (pa_cons (pv 5) pa_nil)) (nomark _)) (pw_or1 (pt_cmpR op_ne (pe_callB call_len_seq (by rfl) T.len PySem.boot_len (pa_cons (pe_ix ix_tup (pv 4) pe_int (fun _ _ => rfl)) pa_nil)) (pe_callB call_len_seq (by rfl) T.len PySem.boot_len (pa_cons (pv 5) pa_nil)) (nomark _)))))
(pss_one (ps_ret (pe_cmpR op_eq (pv 12) pe_str (nomark _))))
pss_nil)
(pss_one (ps_ret (pe_and (pe_cmpR op_eq (pv 12) pe_str (nomark _)) (pe_and (pe_call GW hr1 (by rfl) mgW kW bW .nil pass0 (pa_cons (pv 13) pa_nil)) (pe_one (pe_cmpR op_eq (pv 13) (pe_call GZ hr2 (by rfl) mgZ kZ bZ .nil pass0 (pa_cons (pv 3) (pa_cons (pv 4) (pa_cons (pe_tup (pa_cons (pv 8) (pa_cons (pe_callTy call_tuple_of (by rfl) T.tuple (by decide +kernel) (pa_cons (pv 5) pa_nil)) pa_nil))) pa_nil)))) (nomark _)))))))))))))))))))))))))))))))), ?_⟩
    refine RD.r_start (σ' := [some (.ref a), none, none, none, none, none, none, none, none, none, none, none, none, none]) rfl ?_
    dsimp only [cxOf, Cx.nox, Cx.wish]
    walk_at "go"
    refine ⟨a, ns, rfl, hS, fun p c H1 hpn hcn hP1 hext => ?_⟩
    have hl1000 : ns.length ≤ 1000 := by omega
    walk_at "go"
    rename_i m0 H0 hm0 hm1 hP0 hk0
    refine ⟨p, c, ns, _, _, rfl, hP0, (by omega), (by omega), (by omega), (by omega), fun q1 t1 c1 ps H2 hq1 ht1 hlen1 ok1 hP2 hk2 hqn1 htn1 => ?_⟩
    walk_at "go"
    refine ⟨p, c, ns, _, _, rfl, hP2, (by omega), (by omega), (by omega), (by omega), fun q2 t2 c2 ms H3 hq2 ht2 hlen2 ok2 hP3 hk3 hqn2 htn2 => ?_⟩
    have np : ∀ z, H0 z = none → z ≠ p := fun z hz e => by
      obtain ⟨o, ho⟩ := hP0.at
      rw [e, ho] at hz; cases hz
    have np2 : ∀ z, H2 z = none → z ≠ p := fun z hz e => by
      obtain ⟨o, ho⟩ := hP2.at
      rw [e, ho] at hz; cases hz
    have hL1 : PlnAt H3 q1 t1 c1 ps := ⟨hk3 _ _ (np _ hqn1) hq1, hk3 _ _ (np _ htn1) ht1⟩
    have hL2 : PlnAt H3 q2 t2 c2 ms := ⟨hq2, ht2⟩
    have n1 := np _ hqn1
    have n2 := np _ htn1
    have n3 := np2 _ hqn2
    have n4 := np2 _ htn2
    clear np np2 hqn1 htn1 hqn2 htn2 hk3 hk2 hk0 hext hq1 ht1 hq2 ht2 hP2 hP0 hP1
    walk_at "go"
    rename_i L hL
    have hLp : L ≠ p := (hP3.ne_new hL).1
    have hLc : L ≠ c := (hP3.ne_new hL).2
    have hB : Bx (upd H3 L (.lst [])) q1 t1 c1 ps q2 t2 c2 ms L [] [] := ⟨hL1.ext fun b o e => RD.upd_new hL e, hL2.ext fun b o e => RD.upd_new hL e, ok1, ok2, ⟨upd_same, rfl, fun _ _ _ e => nomatch e⟩⟩
    have hP4 := PoolAt.new (o := .lst []) hP3 hL
    obtain ⟨kk, hkk, ekk⟩ : ∃ kk : Nat, kk ≤ 4 ∧ 1 + m0 = (kk : Int) := ⟨(1 + m0).toNat, by omega, by omega⟩
    clear hL1 hL2 hP3 n1 n2 n3 n4
    refine OWN.r_forR ?_
    walk_at "go"
    refine OWN.r_forRx (n := kk) ekk (by omega) (fun i σ H' => ∃ (v6 v7 : Option V) (qs : List Addr) (prs : List (Int × Int)), σ = [some (.ref a), some (.ref p), some (.int (1 + m0)), some (.ref q1), some (.ref q2), some (.ref L), v6, v7, none, none, none, none, none, none] ∧ Bx H' q1 t1 c1 ps q2 t2 c2 ms L qs prs ∧ PoolAt H' p c ns (20 + 3 * i) ∧ prs.length = i ∧ ∀ pr ∈ prs, (1 ≤ pr.1 ∧ pr.1 ≤ pr.2) ∧ pr.2 ≤ 50) ?_ ?_ ?_
    · exact ⟨_, _, _, _, rfl, hB, PoolAt.mono hP4 (by omega), rfl, fun _ h => nomatch h⟩
    · rintro i σ H4 hi ⟨v6, v7, qs, prs, rfl, hB4, hP5, hli, hgd⟩
      clear hB hP4
      walk_at "go"
      rename_i v1 H5 h50 h51 hP6 hk5
      have hB5 := hB4.take hP5 hLp hk5
      have hf5 := hB5.pr.fr
      clear hB4 hP5 hk5
      walk_at "go"
      rename_i v2 H6 h60 h61 hP7 hk6 v3 H7 h70 h71 hP8 hk7 T' hT'
      have hB6 := hB5.take hP6 hLp hk6
      have hB7 := (hB6.take hP7 hLp hk7).new (o := HO.tup [V.int (1 + v1 - (if decide (v2 = 0) = true then 1 else 0) * v3), V.int (1 + v1)]) hT'
      have hlq : (qs.map V.ref).length ≤ 1000 := by rw [List.length_map, hB5.pr.len]; omega
      refine RD.r_app hB7.pr.fr hlq ?_
      have hB8 := hB7.app (T := T') upd_same
      refine ⟨_, _, _, _, rfl, hB8, PoolAt.mono (PoolAt.old (PoolAt.new hP8 hT') hLp.symm hLc.symm) (by omega), by rw [List.length_append, hli]; rfl, fun pr hpr => ?_⟩
      rcases List.mem_append.mp hpr with h | h
      · exact hgd pr h
      · rw [List.mem_singleton.mp h]
        show (1 ≤ 1 + v1 - (if decide (v2 = 0) = true then 1 else 0) * v3 ∧ 1 + v1 - (if decide (v2 = 0) = true then 1 else 0) * v3 ≤ 1 + v1) ∧ 1 + v1 ≤ 50
        by_cases z : v2 = 0
        · simp only [z, decide_true, if_true, Int.one_mul]; omega
        · simp only [z, decide_false, Bool.false_eq_true, if_false, Int.zero_mul]; omega
    · rintro σ H4 ⟨v6, v7, qs, prs, rfl, hB4, hP5, hli, hgd⟩
      clear hB hP4
      walk_at "go"
      rename_i l hl v1 H5 h50 h51 hP6 hk5
      have hB5 := (hB4.new hl).take (PoolAt.new hP5 hl) hLp hk5
      have good : Good prs := ⟨by omega, hgd⟩
      have hlp := (hP5.ne_new hl).1
      have hlA : H5 l = some (.lst [.int 1, .int 2, .int 1000]) := by rw [hk5 l hlp]; exact upd_same
      refine RD.r_ixMenu hlA rfl h50 (by simp; omega) fun root hr0 => ?_
      have hroot : root = 1 ∨ root = 2 ∨ root = 1000 := by simpa using hr0
      clear hB4 hP5 hk5 hr0 hli hgd
      walk_at "go"
      rename_i un H6 h60 h61 hP7 hk6
      have hB6 := hB5.take hP6 hLp hk6
      clear hB5 hP6 hk6
      refine ⟨fun σ' H' => ∃ (q1 t1 : Addr) (c1 : Int) (ps : List Int), σ' = [some (.ref a), some (.ref p), some (.int (1 + m0)), some (.ref q1), some (.ref q2), some (.ref L), v6, v7, some (.int root), some (.int un), none, none, none, none] ∧ Bx H' q1 t1 c1 ps q2 t2 c2 ms L qs prs ∧ PoolAt H' p c ns 60, ?_, ?_⟩
      · walk_at "go"
        · rename_i v8 H8 h80 h81 hP9 hk9
          have hB9 := hB6.take hP7 hLp hk9
          refine ⟨p, c, ns, _, _, rfl, hP9, (by omega), (by omega), (by omega), (by omega), fun q t cn pw H10 hq ht hl10 ok hP10 hk10 _ _ => ?_⟩
          walk_at "go"
          have hB10 := hB9.mv hP9 hLp hk10
          exact ⟨q, t, cn, pw, rfl, ⟨⟨hq, ht⟩, hB10.b, ok, hB10.ok2, hB10.pr⟩, PoolAt.mono hP10 (by omega)⟩
        · exact ⟨q1, t1, c1, ps, rfl, hB6, PoolAt.mono hP7 (by omega)⟩
      rintro σ7 H7 ⟨q1, t1, c1, ps, rfl, hB7, hP8⟩
      clear hB6 hP7
      refine ⟨fun σ' H' => ∃ (q2 t2 : Addr) (c2 : Int) (ms : List Int), σ' = [some (.ref a), some (.ref p), some (.int (1 + m0)), some (.ref q1), some (.ref q2), some (.ref L), v6, v7, some (.int root), some (.int un), none, none, none, none] ∧ Bx H' q1 t1 c1 ps q2 t2 c2 ms L qs prs ∧ PoolAt H' p c ns 80, ?_, ?_⟩
      · walk_at "go"
        · rename_i v8 H8 h80 h81 hP9 hk9
          have hB9 := hB7.take hP8 hLp hk9
          refine ⟨p, c, ns, _, _, rfl, hP9, (by omega), (by omega), (by omega), (by omega), fun q t cn pw H10 hq ht hl10 ok hP10 hk10 _ _ => ?_⟩
          walk_at "go"
          have hB10 := hB9.mv hP9 hLp hk10
          exact ⟨q, t, cn, pw, rfl, ⟨hB10.a, ⟨hq, ht⟩, hB10.ok1, ok, hB10.pr⟩, PoolAt.mono hP10 (by omega)⟩
        · exact ⟨q2, t2, c2, ms, rfl, hB7, PoolAt.mono hP8 (by omega)⟩
      rintro σ8 H8 ⟨q2, t2, c2, ms, rfl, hB8, hP9⟩
      clear hB7 hP8
      refine ⟨fun σ' H' => ∃ (L : Addr) (qs : List Addr) (prs : List (Int × Int)), σ' = [some (.ref a), some (.ref p), some (.int (1 + m0)), some (.ref q1), some (.ref q2), some (.ref L), v6, v7, some (.int root), some (.int un), none, none, none, none] ∧ L ≠ p ∧ L ≠ c ∧ Good prs ∧ Bx H' q1 t1 c1 ps q2 t2 c2 ms L qs prs ∧ PoolAt H' p c ns 100, ?_, ?_⟩
      · walk_at "go"
        · refine OWN.r_lcR ?_
          walk_at "go"
          rename_i v8 H10 h80 h81 hP10 hk10
          have hB10 := hB8.take hP9 hLp hk10
          obtain ⟨n, hn, hn1, hn4⟩ : ∃ n : Nat, 1 + (1 + m0 + v8) % 4 = (n : Int) ∧ 1 ≤ n ∧ n ≤ 4 := ⟨(1 + (1 + m0 + v8) % 4).toNat, by omega, by omega, by omega⟩
          refine OWN.r_lcRx (n := n) hn (by omega) (fun D i H' => ∃ qs, PrsAt H' D qs (firstN (fun _ => (1, 2)) i) ∧ ∀ b o, b ≠ D → H10 b = some o → H' b = some o) (fun D hD => ⟨[], ⟨upd_same, rfl, fun _ _ _ e => nomatch e⟩, fun b o hb e => by rw [upd_ne hb]; exact e⟩) ?_ ?_
          · rintro D hD i H' hi ⟨qs', hp', hx⟩
            refine ⟨rfl, ?_⟩
            refine RD.r_tyes ?_
            refine iteT ?_
            walk_at "go"
            rename_i T' hT'
            have hp2 := hp'.ext (H' := upd H' T' (.tup [V.int 1, V.int 2])) fun b o e => RD.upd_new hT' e
            refine ⟨_, hp2.fr, by rw [List.length_map, hp2.len, firstN_len]; exact small1000 (by omega), ⟨qs' ++ [T'], by rw [firstN_succ]; exact hp2.app upd_same, fun b o hb e => ?_⟩⟩
            rw [upd_ne hb]
            exact RD.upd_new hT' (hx b o hb e)
          · rintro D hD H' ⟨qs', hp', hx⟩
            walk_at "go"
            have ex : ∀ b o, H10 b = some o → H' b = some o := fun b o e => hx b o (ne_of_none e hD) e
            have hB11 := hB10.ext ex
            refine ⟨D, qs', _, rfl, (hP10.ne_new hD).1, (hP10.ne_new hD).2, ⟨by rw [firstN_len]; omega, fun x hx => ?_⟩, ⟨hB11.a, hB11.b, hB11.ok1, hB11.ok2, hp'⟩, PoolAt.mono (PoolAt.ext hP10 ex) (by omega)⟩
            obtain ⟨i, _, rfl⟩ := firstN_mem hx
            decide
        · exact ⟨L, qs, prs, rfl, hLp, hLc, good, hB8, PoolAt.mono hP9 (by omega)⟩
      rintro σ9 H9 ⟨L, qs, prs, rfl, hLp, hLc, good, hB9, hP10⟩
      clear hB8 hP9
      walk_at "go"
      rename_i sp H10 h100 h101 hP11 hk10
      have hB10 := hB9.take hP10 hLp hk10
      have hlq : (qs.map V.ref).length = prs.length := (List.length_map _).trans hB10.pr.len
      have g1 := good.1
      refine RD.r_len (.inl (SqL.of hB10.pr.fr)) ?_
      clear hB9 hP10 hk10
      walk_at "go"
      rename_i kz H11 h110 h111 hP12 hk11
      have hB11 := hB10.take hP11 hLp hk11
      obtain ⟨k, hk, rfl⟩ : ∃ k : Nat, k < prs.length ∧ kz = (k : Int) := ⟨kz.toNat, by omega, by omega⟩
      obtain ⟨pr, hpr⟩ : ∃ pr, prs[k]? = some pr := ⟨_, List.getElem?_eq_getElem hk⟩
      obtain ⟨q, hq⟩ : ∃ q, qs[k]? = some q := ⟨_, List.getElem?_eq_getElem (by rw [hB11.pr.len]; exact hk)⟩
      have hqa := hB11.pr.at' k q pr hq hpr
      have aq : atI (qs.map V.ref) (k : Int) = some (V.ref q) := atI_nat (by rw [List.getElem?_map, hq]; rfl)
      have gpr := good.2 pr (List.mem_of_getElem? hpr)
      refine RD.r_ixL (SqL.of hB11.pr.fr) aq ?_
      walk_at "go"
      clear hB10 hP11 hk11
      have I0 : InvS a p c ns m0 un v6 q1 t1 c1 ps q2 t2 c2 ms sp 0 [some (.ref a), some (.ref p), some (.int (1 + m0)), some (.ref q1), some (.ref q2), some (.ref L), v6, some (.int pr.2), some (.int root), some (.int un), some (.int sp), some (.int (k : Int)), none, none] H11 :=
        ⟨L, qs, prs, root, pr.2, k, rfl, hB11, hLp, hLc, PoolAt.mono hP12 (by omega), good.wide, fun h => absurd h (by omega), fun _ => ⟨hroot, good, hk, by omega, by omega⟩⟩
      clear hB11 hP12 hqa hlq g1 good hpr hq aq hk gpr hLp hLc hroot
      -- 1: the root
      refine ⟨fun σ' H' => InvS a p c ns m0 un v6 q1 t1 c1 ps q2 t2 c2 ms sp 1 σ' H', ?_, ?_⟩
      · obtain ⟨L, qs, prs, root, bt, k, hσ, hB, hLp, hLc, hP, hw, hbad, hgd⟩ := I0
        cases hσ
        by_cases hs : sp = 1
        · obtain ⟨hroot, good, hk, hb1, hb2⟩ := hgd (by omega)
          walk_at "go"
          rename_i l hl v H12 h120 h121 hP12 hk12
          have hlp := (PoolAt.ne_new hP hl).1
          have hlA : H12 l = some (.lst [.int 0, .int (-1), .int 1001, .int 1002, .int 2000, .int 5000]) := by rw [hk12 l hlp]; exact upd_same
          refine RD.r_ixMenu hlA rfl h120 (by simp; omega) fun z hz => ?_
          have hz' : z = 0 ∨ z = -1 ∨ z = 1001 ∨ z = 1002 ∨ z = 2000 ∨ z = 5000 := by simpa using hz
          walk_at "go"
          exact ⟨L, qs, prs, z, _, k, rfl, (hB.new hl).take (PoolAt.new hP hl) hLp hk12, hLp, hLc, PoolAt.mono hP12 (by omega), hw, fun _ o => by have := o.1; omega, fun h => absurd hs (by omega)⟩
        · walk_at "go"
          exact InvS.skip ⟨L, qs, prs, root, _, k, rfl, hB, hLp, hLc, hP, hw, hbad, hgd⟩ rfl (by decide) hs
      clear I0
      -- 2: no pairs
      rintro σ1 H1' I1
      refine ⟨fun σ' H' => InvS a p c ns m0 un v6 q1 t1 c1 ps q2 t2 c2 ms sp 2 σ' H', ?_, ?_⟩
      · obtain ⟨L, qs, prs, root, bt, k, rfl, hB, hLp, hLc, hP, hw, hbad, hgd⟩ := I1
        by_cases hs : sp = 2
        · walk_at "go"
          rename_i l hl
          have hn := PoolAt.ne_new hP hl
          have hB2 := hB.new (o := .lst []) hl
          exact ⟨l, [], [], root, bt, k, rfl, ⟨hB2.a, hB2.b, hB2.ok1, hB2.ok2, ⟨upd_same, rfl, fun _ _ _ e => nomatch e⟩⟩, hn.1, hn.2, PoolAt.mono (PoolAt.new hP hl) (by omega), (show wide [] from fun _ h => by cases h), fun _ o => absurd o.2.1.1 (by decide), fun h => absurd hs (by omega)⟩
        · walk_at "go"
          exact InvS.skip ⟨L, qs, prs, root, bt, k, rfl, hB, hLp, hLc, hP, hw, hbad, hgd⟩ rfl (by decide) hs
      clear I1
      -- 3: too many pairs
      rintro σ2 H2' I2
      refine ⟨fun σ' H' => InvS a p c ns m0 un v6 q1 t1 c1 ps q2 t2 c2 ms sp 3 σ' H', ?_, ?_⟩
      · obtain ⟨L, qs, prs, root, bt, k, rfl, hB, hLp, hLc, hP, hw, hbad, hgd⟩ := I2
        by_cases hs : sp = 3
        · walk_at "go"
          refine OWN.r_lcR ?_
          walk_at "go"
          rename_i v8 H12 h120 h121 hP12 hk12
          have hB12 := hB.take hP hLp hk12
          obtain ⟨n, hn, hn1, hn4⟩ : ∃ n : Nat, 5 + v8 = (n : Int) ∧ 5 ≤ n ∧ n ≤ 8 := ⟨(5 + v8).toNat, by omega, by omega, by omega⟩
          refine OWN.r_lcRx (n := n) hn (by omega) (fun D i H' => ∃ qs, PrsAt H' D qs (firstN (fun i => (1, 1 + (i : Int))) i) ∧ ∀ b o, b ≠ D → H12 b = some o → H' b = some o) (fun D hD => ⟨[], ⟨upd_same, rfl, fun _ _ _ e => nomatch e⟩, fun b o hb e => by rw [upd_ne hb]; exact e⟩) ?_ ?_
          · rintro D hD i H' hi ⟨qs', hp', hx⟩
            refine ⟨rfl, ?_⟩
            refine RD.r_tyes ?_
            refine iteT ?_
            walk_at "go"
            rename_i T' hT'
            have hp2 := hp'.ext (H' := upd H' T' (.tup [V.int 1, V.int (1 + (i : Int))])) fun b o e => RD.upd_new hT' e
            refine ⟨_, hp2.fr, by rw [List.length_map, hp2.len, firstN_len]; exact small1000 (by omega), ⟨qs' ++ [T'], by rw [firstN_succ]; exact hp2.app upd_same, fun b o hb e => ?_⟩⟩
            rw [upd_ne hb]
            exact RD.upd_new hT' (hx b o hb e)
          · rintro D hD H' ⟨qs', hp', hx⟩
            walk_at "go"
            have ex : ∀ b o, H12 b = some o → H' b = some o := fun b o e => hx b o (ne_of_none e hD) e
            have hB13 := hB12.ext ex
            have hn := PoolAt.ne_new hP12 hD
            refine ⟨D, qs', _, root, bt, k, rfl, ⟨hB13.a, hB13.b, hB13.ok1, hB13.ok2, hp'⟩, hn.1, hn.2, PoolAt.mono (PoolAt.ext hP12 ex) (by omega), small_wide fun x hx => ?_, fun _ o => ?_, fun h => absurd hs (by omega)⟩
            · obtain ⟨i, hi, rfl⟩ := firstN_mem hx
              show (1 : Int) ≤ 1000 ∧ 1 + (i : Int) ≤ 1000
              omega
            · have := o.2.1.2
              rw [firstN_len] at this
              omega
        · walk_at "go"
          exact InvS.skip ⟨L, qs, prs, root, bt, k, rfl, hB, hLp, hLc, hP, hw, hbad, hgd⟩ rfl (by decide) hs
      clear I2
      rintro σ4' H4' I3
      refine ⟨fun σ' H' => InvS a p c ns m0 un v6 q1 t1 c1 ps q2 t2 c2 ms sp 4 σ' H', ?_, ?_⟩
      · obtain ⟨L, qs, prs, root, bt, k, rfl, hB, hLp, hLc, hP, hw, hbad, hgd⟩ := I3
        by_cases hs : sp = 4
        · obtain ⟨hroot, good, hk, hb1, hb2⟩ := hgd (by omega)
          walk_at "go"
          rename_i T' hT'
          have hB2 := hB.new (o := .tup [.int (0), .int (bt)]) hT'
          refine OWN.r_setN hB2.pr.fr (by rw [List.length_map, hB2.pr.len]; exact hk) ?_
          exact ⟨L, _, _, root, bt, k, rfl, hB2.set upd_same hk, hLp, hLc, PoolAt.mono (PoolAt.old (PoolAt.new hP hT') hLp.symm hLc.symm) (by omega), set_wide good (by show (0 : Int) ≤ 1000 ∧ (bt : Int) ≤ 1000; omega), fun _ => set_bad hk (by show ¬ (1 ≤ (0 : Int) ∧ (0 : Int) ≤ bt); omega), fun h => absurd hs (by omega)⟩
        · walk_at "go"
          exact InvS.skip ⟨L, qs, prs, root, bt, k, rfl, hB, hLp, hLc, hP, hw, hbad, hgd⟩ rfl (by decide) hs
      clear I3
      rintro σ5' H5' I4
      refine ⟨fun σ' H' => InvS a p c ns m0 un v6 q1 t1 c1 ps q2 t2 c2 ms sp 5 σ' H', ?_, ?_⟩
      · obtain ⟨L, qs, prs, root, bt, k, rfl, hB, hLp, hLc, hP, hw, hbad, hgd⟩ := I4
        by_cases hs : sp = 5
        · obtain ⟨hroot, good, hk, hb1, hb2⟩ := hgd (by omega)
          walk_at "go"
          rename_i T' hT'
          have hB2 := hB.new (o := .tup [.int (-bt), .int (bt)]) hT'
          refine OWN.r_setN hB2.pr.fr (by rw [List.length_map, hB2.pr.len]; exact hk) ?_
          exact ⟨L, _, _, root, bt, k, rfl, hB2.set upd_same hk, hLp, hLc, PoolAt.mono (PoolAt.old (PoolAt.new hP hT') hLp.symm hLc.symm) (by omega), set_wide good (by show (-bt : Int) ≤ 1000 ∧ (bt : Int) ≤ 1000; omega), fun _ => set_bad hk (by show ¬ (1 ≤ (-bt : Int) ∧ (-bt : Int) ≤ bt); omega), fun h => absurd hs (by omega)⟩
        · walk_at "go"
          exact InvS.skip ⟨L, qs, prs, root, bt, k, rfl, hB, hLp, hLc, hP, hw, hbad, hgd⟩ rfl (by decide) hs
      clear I4
      rintro σ6' H6' I5
      refine ⟨fun σ' H' => InvS a p c ns m0 un v6 q1 t1 c1 ps q2 t2 c2 ms sp 6 σ' H', ?_, ?_⟩
      · obtain ⟨L, qs, prs, root, bt, k, rfl, hB, hLp, hLc, hP, hw, hbad, hgd⟩ := I5
        by_cases hs : sp = 6
        · obtain ⟨hroot, good, hk, hb1, hb2⟩ := hgd (by omega)
          walk_at "go"
          rename_i T' hT'
          have hB2 := hB.new (o := .tup [.int (bt + 1), .int (bt)]) hT'
          refine OWN.r_setN hB2.pr.fr (by rw [List.length_map, hB2.pr.len]; exact hk) ?_
          exact ⟨L, _, _, root, bt, k, rfl, hB2.set upd_same hk, hLp, hLc, PoolAt.mono (PoolAt.old (PoolAt.new hP hT') hLp.symm hLc.symm) (by omega), set_wide good (by show (bt + 1 : Int) ≤ 1000 ∧ (bt : Int) ≤ 1000; omega), fun _ => set_bad hk (by show ¬ (1 ≤ (bt + 1 : Int) ∧ (bt + 1 : Int) ≤ bt); omega), fun h => absurd hs (by omega)⟩
        · walk_at "go"
          exact InvS.skip ⟨L, qs, prs, root, bt, k, rfl, hB, hLp, hLc, hP, hw, hbad, hgd⟩ rfl (by decide) hs
      clear I5
      rintro σ7' H7' I6
      refine ⟨fun σ' H' => InvS a p c ns m0 un v6 q1 t1 c1 ps q2 t2 c2 ms sp 7 σ' H', ?_, ?_⟩
      · obtain ⟨L, qs, prs, root, bt, k, rfl, hB, hLp, hLc, hP, hw, hbad, hgd⟩ := I6
        by_cases hs : sp = 7
        · obtain ⟨hroot, good, hk, hb1, hb2⟩ := hgd (by omega)
          walk_at "go"
          rename_i T' hT'
          have hB2 := hB.new (o := .tup [.int (-bt), .int (-bt)]) hT'
          refine OWN.r_setN hB2.pr.fr (by rw [List.length_map, hB2.pr.len]; exact hk) ?_
          exact ⟨L, _, _, root, bt, k, rfl, hB2.set upd_same hk, hLp, hLc, PoolAt.mono (PoolAt.old (PoolAt.new hP hT') hLp.symm hLc.symm) (by omega), set_wide good (by show (-bt : Int) ≤ 1000 ∧ (-bt : Int) ≤ 1000; omega), fun _ => set_bad hk (by show ¬ (1 ≤ (-bt : Int) ∧ (-bt : Int) ≤ -bt); omega), fun h => absurd hs (by omega)⟩
        · walk_at "go"
          exact InvS.skip ⟨L, qs, prs, root, bt, k, rfl, hB, hLp, hLc, hP, hw, hbad, hgd⟩ rfl (by decide) hs
      clear I6
      rintro σ8' H8' I7
      refine ⟨fun σ' H' => InvS a p c ns m0 un v6 q1 t1 c1 ps q2 t2 c2 ms sp 8 σ' H', ?_, ?_⟩
      · obtain ⟨L, qs, prs, root, bt, k, rfl, hB, hLp, hLc, hP, hw, hbad, hgd⟩ := I7
        by_cases hs : sp = 8
        · obtain ⟨hroot, good, hk, hb1, hb2⟩ := hgd (by omega)
          walk_at "go"
          rename_i T' hT'
          have hB2 := hB.new (o := .tup [.int (1), .int (0)]) hT'
          refine OWN.r_setN hB2.pr.fr (by rw [List.length_map, hB2.pr.len]; exact hk) ?_
          exact ⟨L, _, _, root, bt, k, rfl, hB2.set upd_same hk, hLp, hLc, PoolAt.mono (PoolAt.old (PoolAt.new hP hT') hLp.symm hLc.symm) (by omega), set_wide good (by show (1 : Int) ≤ 1000 ∧ (0 : Int) ≤ 1000; omega), fun _ => set_bad hk (by show ¬ (1 ≤ (1 : Int) ∧ (1 : Int) ≤ 0); omega), fun h => absurd hs (by omega)⟩
        · walk_at "go"
          exact InvS.skip ⟨L, qs, prs, root, bt, k, rfl, hB, hLp, hLc, hP, hw, hbad, hgd⟩ rfl (by decide) hs
      clear I7
      rintro σ9' H9' ⟨L, qs, prs, root, bt, k', rfl, hB, hLp, hLc, hP, hw, hbad, hgd⟩
      have ok1 := hB.ok1
      have ok2 := hB.ok2
      have hla : (ps.map V.int).length = ps.length := List.length_map _
      have hlb : (ms.map V.int).length = ms.length := List.length_map _
      have hlq : (qs.map V.ref).length = prs.length := (List.length_map _).trans hB.pr.len
      walk_at "go"
      refine RD.r_tupOfL (SqL.of hB.pr.fr) fun T1 hT1 => ?_
      walk_at "go"
      rename_i S1 hS1
      have rw1 : ∀ (HF : Hp) (T1 S1 : Addr), HF T1 = some (.tup (qs.map V.ref)) → HF S1 = some (.tup [.int root, .ref T1]) → (∀ b o, H9' b = some o → HF b = some o) → RowAt HF S1 T1 root qs prs := fun HF T1 S1 h1 h2 e => ⟨h2, h1, hB.pr.len, fun j q pr e1 e2 => e _ _ (hB.pr.at' j q pr e1 e2)⟩
      have ex1 : ∀ b o, H9' b = some o → (upd (upd H9' T1 (.tup (qs.map V.ref))) S1 (.tup [.int root, .ref T1])) b = some o := fun b o e => RD.upd_new hS1 (RD.upd_new hT1 e)
      have hB1 := hB.ext ex1
      refine ⟨q1, q2, t1, t2, S1, T1, c1, c2, root, ps, ms, qs, prs, rfl, hB1.a, hB1.b, ok1, ok2, rw1 _ _ _ (RD.upd_new hS1 upd_same) upd_same ex1, hw, fun o l1 l2 T' HF hT' eF => ?_, fun no T' HF hT' eF => ?_, fun o no T' HF hT' eF => ?_⟩
      all_goals have hBF := hB1.ext eF
      all_goals have hfF := hBF.pr.fr
      all_goals have haF := hBF.a.hq
      all_goals have htF := hBF.a.ht
      all_goals have hbF := hBF.b.hq
      all_goals have huF := hBF.b.ht
      · have hn : ¬ (1 ≤ sp ∧ sp ≤ 8) := fun h => hbad h o
        have e : decide (wOf c1 c2 ps ms root prs = wOf c1 c2 ps ms root prs) = true := decide_eq_true rfl
        have e9 : ∀ b o, H9' b = some o → HF b = some o := fun b o e => eF _ _ (ex1 b o e)
        walk_at "go"
        all_goals refine RD.r_tupOfL (SqL.of hfF) fun T2 hT2 => ?_
        all_goals walk_at "go"
        all_goals rename_i S2 hS2
        all_goals (have ex2 : ∀ b o, HF b = some o → (upd (upd HF T2 (.tup (qs.map V.ref))) S2 (.tup [.int root, .ref T2])) b = some o := fun b o e => RD.upd_new hS2 (RD.upd_new hT2 e))
        all_goals refine ⟨q1, q2, t1, t2, S2, T2, c1, c2, root, ps, ms, qs, prs, rfl, (hBF.ext ex2).a, (hBF.ext ex2).b, ok1, ok2, l1, l2, rw1 _ _ _ (RD.upd_new hS2 upd_same) upd_same (fun b o e => ex2 _ _ (e9 b o e)), o, hw, ?_⟩
        all_goals walk_at "go"
        all_goals (show Q (V.bl (decide ((_ : Int) = _))) _; rw [e]; exact kQ _)
      · have hn : 1 ≤ sp ∧ sp ≤ 8 := Decidable.byContradiction fun h => by
          obtain ⟨h1, h2, _⟩ := hgd h
          exact no (h2.ok h1)
        have e : ∀ s : Str, decide (s = s) = true := fun s => decide_eq_true rfl
        walk_at "go"
        all_goals (show Q (V.bl (decide ((_ : Str) = _))) _; rw [e]; exact kQ _)
      · have hn : ¬ (1 ≤ sp ∧ sp ≤ 8) := fun h => hbad h o
        have e : ∀ s : Str, decide (s = s) = true := fun s => decide_eq_true rfl
        walk_at "go"
        all_goals (show Q (V.bl (decide ((_ : Str) = _))) _; rw [e]; exact kQ _)
end

theorem all_mk {l : PySem.W.OpenLaw} {w : World} {K : PySem.W.Frag} {h : Heap} {mg : Str → Option Value} {fa C B N O fI fP fT fW fL fE fS fM fD fQ fK fV fA fZ fX fLaw : Addr} (X : K.In h) (G : h.Ns mainGlobals mg) (hfa : mg "law" = some (.ref fa))
    {tmo tde tms tmr tkb : Tok} {oc0 kV0 dc0 pm0 cd0 ct0 : Value} {od0 an0 : Option Addr} {sl0 : Array (Option Value)} {oc1 kV1 dc1 pm1 cd1 ct1 : Value} {od1 an1 : Option Addr} {sl1 : Array (Option Value)} {oc2 kV2 dc2 pm2 cd2 ct2 : Value} {od2 an2 : Option Addr} {sl2 : Array (Option Value)} {oc3 kV3 dc3 pm3 cd3 ct3 : Value} {od3 an3 : Option Addr} {sl3 : Array (Option Value)} {oc4 kV4 dc4 pm4 cd4 ct4 : Value} {od4 an4 : Option Addr} {sl4 : Array (Option Value)} {oc5 kV5 dc5 pm5 cd5 ct5 : Value} {od5 an5 : Option Addr} {sl5 : Array (Option Value)} {oc6 kV6 dc6 pm6 cd6 ct6 : Value} {od6 an6 : Option Addr} {sl6 : Array (Option Value)} {oc7 kV7 dc7 pm7 cd7 ct7 : Value} {od7 an7 : Option Addr} {sl7 : Array (Option Value)} {oc8 kV8 dc8 pm8 cd8 ct8 : Value} {od8 an8 : Option Addr} {sl8 : Array (Option Value)} {oc9 kV9 dc9 pm9 cd9 ct9 : Value} {od9 an9 : Option Addr} {sl9 : Array (Option Value)} {oc10 kV10 dc10 pm10 cd10 ct10 : Value} {od10 an10 : Option Addr} {sl10 : Array (Option Value)} {oc11 kV11 dc11 pm11 cd11 ct11 : Value} {od11 an11 : Option Addr} {sl11 : Array (Option Value)} {oc12 kV12 dc12 pm12 cd12 ct12 : Value} {od12 an12 : Option Addr} {sl12 : Array (Option Value)} {oc13 kV13 dc13 pm13 cd13 ct13 : Value} {od13 an13 : Option Addr} {sl13 : Array (Option Value)} {oc14 kV14 dc14 pm14 cd14 ct14 : Value} {od14 an14 : Option Addr} {sl14 : Array (Option Value)} {oc15 kV15 dc15 pm15 cd15 ct15 : Value} {od15 an15 : Option Addr} {sl15 : Array (Option Value)}
    (aC : PySem.W.nsIn K mainGlobals "Length" = some (some (.ref C)))
    (pgC : PySem.W.plainGet K C Str.empty = true)
    (hdC : PySem.W.hasDictIn K C = true)
    (poC : PySem.W.plainOver K C = true)
    (saC : PySem.W.findIn K (.ref C) "__setattr__" = some (some (.builtin "object.__setattr__")))
    (mkC : PySem.W.makesIn K C = true)
    (kcC : PySem.W.keepIn K (.ref C) = true)
    (nC_count : PySem.W.findIn K (.ref C) "count" = some none)
    (nC_powers : PySem.W.findIn K (.ref C) "powers" = some none)
    (rdC : PySem.W.readsIn K C (.type "type") = true)
    (gaC : PySem.W.specialIn K (.ref C) "__getattribute__" = some (some (.builtin "type.__getattribute__")))
    (moC : PySem.W.findCls K (.ref C) (.type "type") "MOST" = some (.val (.int 1000000 tmo)))
    (deC : PySem.W.findCls K (.ref C) (.type "type") "DEEP" = some (.val (.int 2 tde)))
    (msC : PySem.W.nsIn K mainGlobals "MOST_SHARES" = some (some (.int 4 tms)))
    (mrtC : PySem.W.nsIn K mainGlobals "MOST_ROOT" = some (some (.int 1000 tmr)))
    (kbC : PySem.W.nsIn K mainGlobals "KEPT_BITS" = some (some (.int 256 tkb)))
    (aB : PySem.W.nsIn K mainGlobals "BadLength" = some (some (.ref B)))
    (xB : PySem.W.excIn K B [.type "ValueError", .type "Exception", .type "BaseException", .type "object"] "ValueError.__new__" = true)
    (kB : PySem.W.keepIn K (.ref B) = true)
    (bB : PySem.W.subIn K (.ref B) (.type "BaseException") = some true)
    (tB : PySem.W.typeIn K (.ref B) = some (.type "type"))
    (iB : PySem.W.isClsIn K B = true)
    (sB : PySem.W.subIn K (.ref B) (.ref B) = some true)
    (aN : PySem.W.nsIn K mainGlobals "BadShares" = some (some (.ref N)))
    (xN : PySem.W.excIn K N [.type "ValueError", .type "Exception", .type "BaseException", .type "object"] "ValueError.__new__" = true)
    (kN : PySem.W.keepIn K (.ref N) = true)
    (bN : PySem.W.subIn K (.ref N) (.type "BaseException") = some true)
    (tN : PySem.W.typeIn K (.ref N) = some (.type "type"))
    (iN : PySem.W.isClsIn K N = true)
    (sN : PySem.W.subIn K (.ref N) (.ref N) = some true)
    (aO : PySem.W.nsIn K mainGlobals "Mismatch" = some (some (.ref O)))
    (xO : PySem.W.excIn K O [.type "ValueError", .type "Exception", .type "BaseException", .type "object"] "ValueError.__new__" = true)
    (kO : PySem.W.keepIn K (.ref O) = true)
    (bO : PySem.W.subIn K (.ref O) (.type "BaseException") = some true)
    (tO : PySem.W.typeIn K (.ref O) = some (.type "type"))
    (iO : PySem.W.isClsIn K O = true)
    (sO : PySem.W.subIn K (.ref O) (.ref O) = some true)
    (zON : PySem.W.subIn K (.ref O) (.ref N) = some false)
    (z_list : PySem.W.nsIn K mainGlobals "list" = some none)
    (z_int : PySem.W.nsIn K mainGlobals "int" = some none)
    (z_len : PySem.W.nsIn K mainGlobals "len" = some none)
    (z_tuple : PySem.W.nsIn K mainGlobals "tuple" = some none)
    (z_bool : PySem.W.nsIn K mainGlobals "bool" = some none)
    (z_isinstance : PySem.W.nsIn K mainGlobals "isinstance" = some none)
    (z_range : PySem.W.nsIn K mainGlobals "range" = some none)
    (z_max : PySem.W.nsIn K mainGlobals "max" = some none)
    (z_zip : PySem.W.nsIn K mainGlobals "zip" = some none)
    (afI : PySem.W.findIn K (.ref C) "__init__" = some (some (.ref fI)))
    (ifI : PySem.W.isFn K (.ref fI) = true)
    (lfI : K.lookup fI = some ⟨oc0, od0, .func (PySem.W.fnOf "__init__" "Length.__init__" (defArgs sLenInit) (defBody sLenInit) (defScope sLenInit) .none kV0 dc0 pm0 an0 cd0 ct0), sl0⟩)
    (cfI : PySem.W.codeIn K cd0 "Length.__init__" = true)
    (kfI : PySem.W.keepIn K (.ref fI) = true)
    (afP : PySem.W.nsIn K mainGlobals "_law_pool" = some (some (.ref fP)))
    (lfP : K.lookup fP = some ⟨oc1, od1, .func (PySem.W.fnOf "_law_pool" "_law_pool" (defArgs sPool) (defBody sPool) (defScope sPool) .none kV1 dc1 pm1 an1 cd1 ct1), sl1⟩)
    (cfP : PySem.W.codeIn K cd1 "_law_pool" = true)
    (kfP : PySem.W.keepIn K (.ref fP) = true)
    (afT : PySem.W.nsIn K mainGlobals "_law_take" = some (some (.ref fT)))
    (lfT : K.lookup fT = some ⟨oc2, od2, .func (PySem.W.fnOf "_law_take" "_law_take" (defArgs sTake) (defBody sTake) (defScope sTake) .none kV2 dc2 pm2 an2 cd2 ct2), sl2⟩)
    (cfT : PySem.W.codeIn K cd2 "_law_take" = true)
    (kfT : PySem.W.keepIn K (.ref fT) = true)
    (afW : PySem.W.nsIn K mainGlobals "_law_whole" = some (some (.ref fW)))
    (lfW : K.lookup fW = some ⟨oc3, od3, .func (PySem.W.fnOf "_law_whole" "_law_whole" (defArgs sWhole) (defBody sWhole) (defScope sWhole) .none kV3 dc3 pm3 an3 cd3 ct3), sl3⟩)
    (cfW : PySem.W.codeIn K cd3 "_law_whole" = true)
    (kfW : PySem.W.keepIn K (.ref fW) = true)
    (afL : PySem.W.nsIn K mainGlobals "_law_length" = some (some (.ref fL)))
    (lfL : K.lookup fL = some ⟨oc4, od4, .func (PySem.W.fnOf "_law_length" "_law_length" (defArgs sLLen) (defBody sLLen) (defScope sLLen) .none kV4 dc4 pm4 an4 cd4 ct4), sl4⟩)
    (cfL : PySem.W.codeIn K cd4 "_law_length" = true)
    (kfL : PySem.W.keepIn K (.ref fL) = true)
    (afE : PySem.W.nsIn K mainGlobals "_power" = some (some (.ref fE)))
    (lfE : K.lookup fE = some ⟨oc5, od5, .func (PySem.W.fnOf "_power" "_power" (defArgs sPow) (defBody sPow) (defScope sPow) .none kV5 dc5 pm5 an5 cd5 ct5), sl5⟩)
    (cfE : PySem.W.codeIn K cd5 "_power" = true)
    (kfE : PySem.W.keepIn K (.ref fE) = true)
    (afS : PySem.W.nsIn K mainGlobals "_sign" = some (some (.ref fS)))
    (lfS : K.lookup fS = some ⟨oc6, od6, .func (PySem.W.fnOf "_sign" "_sign" (defArgs sSign) (defBody sSign) (defScope sSign) .none kV6 dc6 pm6 an6 cd6 ct6), sl6⟩)
    (cfS : PySem.W.codeIn K cd6 "_sign" = true)
    (kfS : PySem.W.keepIn K (.ref fS) = true)
    (afM : PySem.W.nsIn K mainGlobals "_multiplied" = some (some (.ref fM)))
    (lfM : K.lookup fM = some ⟨oc7, od7, .func (PySem.W.fnOf "_multiplied" "_multiplied" (defArgs sMulr) (defBody sMulr) (defScope sMulr) .none kV7 dc7 pm7 an7 cd7 ct7), sl7⟩)
    (cfM : PySem.W.codeIn K cd7 "_multiplied" = true)
    (kfM : PySem.W.keepIn K (.ref fM) = true)
    (afD : PySem.W.nsIn K mainGlobals "_bounds" = some (some (.ref fD)))
    (lfD : K.lookup fD = some ⟨oc8, od8, .func (PySem.W.fnOf "_bounds" "_bounds" (defArgs sBnd) (defBody sBnd) (defScope sBnd) .none kV8 dc8 pm8 an8 cd8 ct8), sl8⟩)
    (cfD : PySem.W.codeIn K cd8 "_bounds" = true)
    (kfD : PySem.W.keepIn K (.ref fD) = true)
    (afQ : PySem.W.nsIn K mainGlobals "_compared_products" = some (some (.ref fQ)))
    (lfQ : K.lookup fQ = some ⟨oc9, od9, .func (PySem.W.fnOf "_compared_products" "_compared_products" (defArgs sCmp) (defBody sCmp) (defScope sCmp) .none kV9 dc9 pm9 an9 cd9 ct9), sl9⟩)
    (cfQ : PySem.W.codeIn K cd9 "_compared_products" = true)
    (kfQ : PySem.W.keepIn K (.ref fQ) = true)
    (afK : PySem.W.nsIn K mainGlobals "check_row" = some (some (.ref fK)))
    (lfK : K.lookup fK = some ⟨oc10, od10, .func (PySem.W.fnOf "check_row" "check_row" (defArgs sChk) (defBody sChk) (defScope sChk) .none kV10 dc10 pm10 an10 cd10 ct10), sl10⟩)
    (cfK : PySem.W.codeIn K cd10 "check_row" = true)
    (kfK : PySem.W.keepIn K (.ref fK) = true)
    (afV : PySem.W.nsIn K mainGlobals "weigh" = some (some (.ref fV)))
    (lfV : K.lookup fV = some ⟨oc11, od11, .func (PySem.W.fnOf "weigh" "weigh" (defArgs sWgh) (defBody sWgh) (defScope sWgh) .none kV11 dc11 pm11 an11 cd11 ct11), sl11⟩)
    (cfV : PySem.W.codeIn K cd11 "weigh" = true)
    (kfV : PySem.W.keepIn K (.ref fV) = true)
    (afA : PySem.W.nsIn K mainGlobals "_law_power" = some (some (.ref fA)))
    (lfA : K.lookup fA = some ⟨oc12, od12, .func (PySem.W.fnOf "_law_power" "_law_power" (defArgs sLPow) (defBody sLPow) (defScope sLPow) .none kV12 dc12 pm12 an12 cd12 ct12), sl12⟩)
    (cfA : PySem.W.codeIn K cd12 "_law_power" = true)
    (kfA : PySem.W.keepIn K (.ref fA) = true)
    (afZ : PySem.W.nsIn K mainGlobals "_law_weigh" = some (some (.ref fZ)))
    (lfZ : K.lookup fZ = some ⟨oc13, od13, .func (PySem.W.fnOf "_law_weigh" "_law_weigh" (defArgs sLWgh) (defBody sLWgh) (defScope sLWgh) .none kV13 dc13 pm13 an13 cd13 ct13), sl13⟩)
    (cfZ : PySem.W.codeIn K cd13 "_law_weigh" = true)
    (kfZ : PySem.W.keepIn K (.ref fZ) = true)
    (afX : PySem.W.nsIn K mainGlobals "_law_told" = some (some (.ref fX)))
    (lfX : K.lookup fX = some ⟨oc14, od14, .func (PySem.W.fnOf "_law_told" "_law_told" (defArgs sLTold) (defBody sLTold) (defScope sLTold) .none kV14 dc14 pm14 an14 cd14 ct14), sl14⟩)
    (cfX : PySem.W.codeIn K cd14 "_law_told" = true)
    (kfX : PySem.W.keepIn K (.ref fX) = true)
    (afLaw : PySem.W.nsIn K mainGlobals "law" = some (some (.ref fLaw)))
    (lfLaw : K.lookup fLaw = some ⟨oc15, od15, .func (PySem.W.fnOf "law" "law" (defArgs sLaw) (defBody sLaw) (defScope sLaw) .none kV15 dc15 pm15 an15 cd15 ct15), sl15⟩)
    (cfLaw : PySem.W.codeIn K cd15 "law" = true)
    (kfLaw : PySem.W.keepIn K (.ref fLaw) = true) :
    ∃ fd : FuncData, (∀ (s : Shared) (v : Value), BindsTo s fd ⟨[v], []⟩ [("_law_script", v)]) ∧ ∀ base : Heap, K.In base → base.Ns mainGlobals mg → FnOk l.prog w K mg base CX0 6 fa fd ["_law_script"] (spLaw K) := by
  have e := hfa.symm.trans (PySem.W.mg_of X G afLaw)
  cases e
  have FfI := fun_mk (x := "__init__") (qual := "Length.__init__") (st := sLenInit) lfI cfI kfI
  have bfI := FfI.binds (ps := ["self", "count", "powers"]) fun _ _ _ _ _ _ us hl => match us, hl with | [_, _, _], _ => rfl
  have FfP := fun_mk (x := "_law_pool") (qual := "_law_pool") (st := sPool) lfP cfP kfP
  have bfP := FfP.binds (ps := ["_law_script"]) fun _ _ _ _ _ _ us hl => match us, hl with | [_], _ => rfl
  have FfT := fun_mk (x := "_law_take") (qual := "_law_take") (st := sTake) lfT cfT kfT
  have bfT := FfT.binds (ps := ["_law_pool_here", "_law_size"]) fun _ _ _ _ _ _ us hl => match us, hl with | [_, _], _ => rfl
  have FfW := fun_mk (x := "_law_whole") (qual := "_law_whole") (st := sWhole) lfW cfW kfW
  have bfW := FfW.binds (ps := ["_law_x"]) fun _ _ _ _ _ _ us hl => match us, hl with | [_], _ => rfl
  have FfL := fun_mk (x := "_law_length") (qual := "_law_length") (st := sLLen) lfL cfL kfL
  have bfL := FfL.binds (ps := ["_law_pool_here", "_law_many"]) fun _ _ _ _ _ _ us hl => match us, hl with | [_, _], _ => rfl
  have FfE := fun_mk (x := "_power") (qual := "_power") (st := sPow) lfE cfE kfE
  have bfE := FfE.binds (ps := ["base", "exponent"]) fun _ _ _ _ _ _ us hl => match us, hl with | [_, _], _ => rfl
  have FfS := fun_mk (x := "_sign") (qual := "_sign") (st := sSign) lfS cfS kfS
  have bfS := FfS.binds (ps := ["number"]) fun _ _ _ _ _ _ us hl => match us, hl with | [_], _ => rfl
  have FfM := fun_mk (x := "_multiplied") (qual := "_multiplied") (st := sMulr) lfM cfM kfM
  have bfM := FfM.binds (ps := ["factors"]) fun _ _ _ _ _ _ us hl => match us, hl with | [_], _ => rfl
  have FfD := fun_mk (x := "_bounds") (qual := "_bounds") (st := sBnd) lfD cfD kfD
  have bfD := FfD.binds (ps := ["factors"]) fun _ _ _ _ _ _ us hl => match us, hl with | [_], _ => rfl
  have FfQ := fun_mk (x := "_compared_products") (qual := "_compared_products") (st := sCmp) lfQ cfQ kfQ
  have bfQ := FfQ.binds (ps := ["above", "below"]) fun _ _ _ _ _ _ us hl => match us, hl with | [_, _], _ => rfl
  have FfK := fun_mk (x := "check_row") (qual := "check_row") (st := sChk) lfK cfK kfK
  have bfK := FfK.binds (ps := ["shares"]) fun _ _ _ _ _ _ us hl => match us, hl with | [_], _ => rfl
  have FfV := fun_mk (x := "weigh") (qual := "weigh") (st := sWgh) lfV cfV kfV
  have bfV := FfV.binds (ps := ["left", "right", "shares"]) fun _ _ _ _ _ _ us hl => match us, hl with | [_, _, _], _ => rfl
  have FfA := fun_mk (x := "_law_power") (qual := "_law_power") (st := sLPow) lfA cfA kfA
  have bfA := FfA.binds (ps := ["_law_base", "_law_exponent"]) fun _ _ _ _ _ _ us hl => match us, hl with | [_, _], _ => rfl
  have FfZ := fun_mk (x := "_law_weigh") (qual := "_law_weigh") (st := sLWgh) lfZ cfZ kfZ
  have bfZ := FfZ.binds (ps := ["_law_left", "_law_right", "_law_row"]) fun _ _ _ _ _ _ us hl => match us, hl with | [_, _, _], _ => rfl
  have FfX := fun_mk (x := "_law_told") (qual := "_law_told") (st := sLTold) lfX cfX kfX
  have bfX := FfX.binds (ps := ["_law_left", "_law_right", "_law_row"]) fun _ _ _ _ _ _ us hl => match us, hl with | [_, _, _], _ => rfl
  have FfLaw := fun_mk (x := "law") (qual := "law") (st := sLaw) lfLaw cfLaw kfLaw
  have bfLaw := FfLaw.binds (ps := ["_law_script"]) fun _ _ _ _ _ _ us hl => match us, hl with | [_], _ => rfl
  have N' : ∀ n : Str, PySem.W.nsIn K mainGlobals n = some none → mg n = none := fun n hz => PySem.W.mg_none_of X G hz
  have T : TxB mg := ⟨N' _ z_list, N' _ z_int, N' _ z_len, N' _ z_tuple, N' _ z_bool, N' _ z_isinstance, N' _ z_range⟩
  have T2 : TxW mg := ⟨N' _ z_max, N' _ z_zip⟩
  have TC : Cls K C := ⟨pgC, hdC, poC, saC⟩
  have TL : TxLen K mg C (.type "type") (.int 1000000 tmo) (.int 2 tde) := ⟨TC, nC_count, nC_powers, PySem.W.mg_of X G aC, ⟨rdC, gaC⟩, ⟨moC, ⟨_, rfl⟩⟩, ⟨deC, ⟨_, rfl⟩⟩, ⟨_, PySem.W.mg_of X G msC⟩⟩
  have TE : TxErr K mg "BadLength" B := ⟨xB, PySem.W.mg_of X G aB, kB, bB, tB⟩
  have TS : TxErr K mg "BadShares" N := ⟨xN, PySem.W.mg_of X G aN, kN, bN, tN⟩
  have TMi : TxErr K mg "Mismatch" O := ⟨xO, PySem.W.mg_of X G aO, kO, bO, tO⟩
  have eNN := exm_of bN iN tN sN
  have eON := exm_of bN iN tN zON
  have eOO := exm_of bO iO tO sO
  have MI : Mk K C fI := ⟨mkC, afI, ifI, kcC⟩
  exact ⟨PySem.W.fnOf "law" "law" (defArgs sLaw) (defBody sLaw) (defScope sLaw) .none kV15 dc15 pm15 an15 cd15 ct15, fun s v => .of_eq rfl, fun base _ _ => by
      have GP := ok_pool (P := l.prog) (w := w) (base := base) FfP T
      have GT := ok_take (P := l.prog) (w := w) (K := K) (base := base) FfT T
      have GW := ok_whole (P := l.prog) (w := w) (K := K) (base := base) FfW T
      have GL := ok_llen (P := l.prog) (w := w) (K := K) (base := base) FfL T GT (PySem.W.mg_of X G afT) kfT bfT
      have GI := ok_lenInit (P := l.prog) (w := w) (base := base) FfI T TL TE
      have GE := ok_pow (P := l.prog) (w := w) (K := K) (mg := mg) (base := base) FfE
      have GS := ok_sign (P := l.prog) (w := w) (K := K) (mg := mg) (base := base) FfS
      have GM := ok_mulr (P := l.prog) (w := w) (K := K) (base := base) FfM T
      have GD := ok_bnd (P := l.prog) (w := w) (K := K) (base := base) FfD T T2 (PySem.W.mg_of X G kbC) GM (PySem.W.mg_of X G afM) kfM bfM
      have GQ := ok_cmp (P := l.prog) (w := w) (K := K) (base := base) FfQ GM (PySem.W.mg_of X G afM) kfM bfM GD (PySem.W.mg_of X G afD) kfD bfD GS (PySem.W.mg_of X G afS) kfS bfS
      have GK := ok_chk (P := l.prog) (w := w) (base := base) FfK T TS (PySem.W.mg_of X G msC) (PySem.W.mg_of X G mrtC)
      have GV := ok_wgh (P := l.prog) (w := w) (base := base) FfV T T2 TL TMi GK (PySem.W.mg_of X G afK) kfK bfK GE (PySem.W.mg_of X G afE) kfE bfE GQ (PySem.W.mg_of X G afQ) kfQ bfQ
      have GA := ok_lpow (P := l.prog) (w := w) (K := K) (base := base) FfA T
      have GZ := ok_lwgh (P := l.prog) (w := w) (K := K) (base := base) FfZ T GA (PySem.W.mg_of X G afA) kfA bfA
      have GX := ok_ltold (P := l.prog) (w := w) (base := base) FfX TL TS TMi eNN eON eOO MI GI bfI GV (PySem.W.mg_of X G afV) kfV bfV
      exact ok_law FfLaw T GP bfP (PySem.W.mg_of X G afP) kfP GT bfT (PySem.W.mg_of X G afT) kfT GW bfW (PySem.W.mg_of X G afW) kfW GL bfL (PySem.W.mg_of X G afL) kfL GX bfX (PySem.W.mg_of X G afX) kfX GZ bfZ (PySem.W.mg_of X G afZ) kfZ⟩
theorem walk {l : PySem.W.OpenLaw} {q : Program} {loose : List Str} {XP : (Str → Option Value) → Heap → Prop} {YP : World → Heap → Prop} {d : DefRec} {K : Params → PySem.W.Frag} (hn : l.most = some 63) (hdf : d.params.defaults = [])
    (hY : ∀ (w : World) (h : Heap), YP w h → (K w.params).In h)
    (F : ∀ (w : World) (mg : Str → Option Value) (fa : Addr) (h : Heap), (K w.params).In h → h.Ns mainGlobals mg → mg d.name = some (.ref fa) →
      ∃ fd : FuncData, (∀ (s : Shared) (u : Value), BindsTo s fd ⟨[u], []⟩ [("_law_script", u)]) ∧ ∀ base : Heap, (K w.params).In base → base.Ns mainGlobals mg → FnOk l.prog w (K w.params) mg base CX0 6 fa fd ["_law_script"] (spLaw (K w.params))) :
    PySem.W.WalkO q loose XP YP l.row.toRowW d [] (fun f vs => PySem.call f vs) :=
  L2.walk_of (n := 63) (k := 6) (x := "_law_script") (CX := fun _ => CX0) (sp := fun w => spLaw (K w.params)) hn (by decide) hdf ⟨rfl, by decide, by decide⟩ hY F (fun _ _ a ns hl _ hS => ⟨a, ns, rfl, hS, hl, fun _ => rfl⟩) fun _ _ _ _ _ z => z
end K2
open PySem PySem.W PyProof.Rows
set_option maxRecDepth 100000 in
set_option maxHeartbeats 0 in
theorem PySem.Challenge.cw_twicewashed_k06_weigh_refuses_holds : PySem.Challenge.rw_twicewashed_k06_weigh_refuses.Holds := by
  w_on; o_law; k_head; (case hw => w_witness2)
  k_fill
  refine K2.walk (l := PySem.Challenge.rw_twicewashed_k06_weigh_refuses) rfl rfl (fun w h Y => PySem.W.kIn_of Y) ?F
  case F =>
    intro w mg fa h KX G hmg
    refine' K2.all_mk KX G hmg ?aC ?pgC ?hdC ?poC ?saC ?mkC ?kcC ?nC_count ?nC_powers ?rdC ?gaC ?moC ?deC ?msC ?mrtC ?kbC ?aB ?xB ?kB ?bB ?tB ?iB ?sB ?aN ?xN ?kN ?bN ?tN ?iN ?sN ?aO ?xO ?kO ?bO ?tO ?iO ?sO ?zON ?z_list ?z_int ?z_len ?z_tuple ?z_bool ?z_isinstance ?z_range ?z_max ?z_zip ?afI ?ifI ?lfI ?cfI ?kfI ?afP ?lfP ?cfP ?kfP ?afT ?lfT ?cfT ?kfT ?afW ?lfW ?cfW ?kfW ?afL ?lfL ?cfL ?kfL ?afE ?lfE ?cfE ?kfE ?afS ?lfS ?cfS ?kfS ?afM ?lfM ?cfM ?kfM ?afD ?lfD ?cfD ?kfD ?afQ ?lfQ ?cfQ ?kfQ ?afK ?lfK ?cfK ?kfK ?afV ?lfV ?cfV ?kfV ?afA ?lfA ?cfA ?kfA ?afZ ?lfZ ?cfZ ?kfZ ?afX ?lfX ?cfX ?kfX ?afLaw ?lfLaw ?cfLaw ?kfLaw
    (case aC => k_is)
    (case pgC => k_is)
    (case hdC => k_is)
    (case poC => k_is)
    (case saC => k_is)
    (case mkC => k_is)
    (case kcC => k_is)
    (case nC_count => k_is)
    (case nC_powers => k_is)
    (case rdC => k_is)
    (case gaC => k_is)
    (case moC => k_is)
    (case deC => k_is)
    (case msC => k_is)
    (case mrtC => k_is)
    (case kbC => k_is)
    (case aB => k_is)
    (case xB => first | k_exc | k_is)
    (case kB => k_is)
    (case bB => k_is)
    (case tB => k_is)
    (case iB => k_is)
    (case sB => first | rfl | k_is)
    (case aN => k_is)
    (case xN => first | k_exc | k_is)
    (case kN => k_is)
    (case bN => k_is)
    (case tN => k_is)
    (case iN => k_is)
    (case sN => first | rfl | k_is)
    (case aO => k_is)
    (case xO => first | k_exc | k_is)
    (case kO => k_is)
    (case bO => k_is)
    (case tO => k_is)
    (case iO => k_is)
    (case sO => first | rfl | k_is)
    (case zON => k_is)
    (case z_list => k_is)
    (case z_int => k_is)
    (case z_len => k_is)
    (case z_tuple => k_is)
    (case z_bool => k_is)
    (case z_isinstance => k_is)
    (case z_range => k_is)
    (case z_max => k_is)
    (case z_zip => k_is)
    (case afI => k_is)
    (case ifI => k_is)
    (case lfI => k_is)
    (case cfI => k_is)
    (case kfI => k_is)
    (case afP => k_is)
    (case lfP => k_is)
    (case cfP => k_is)
    (case kfP => k_is)
    (case afT => k_is)
    (case lfT => k_is)
    (case cfT => k_is)
    (case kfT => k_is)
    (case afW => k_is)
    (case lfW => k_is)
    (case cfW => k_is)
    (case kfW => k_is)
    (case afL => k_is)
    (case lfL => k_is)
    (case cfL => k_is)
    (case kfL => k_is)
    (case afE => k_is)
    (case lfE => k_is)
    (case cfE => k_is)
    (case kfE => k_is)
    (case afS => k_is)
    (case lfS => k_is)
    (case cfS => k_is)
    (case kfS => k_is)
    (case afM => k_is)
    (case lfM => k_is)
    (case cfM => k_is)
    (case kfM => k_is)
    (case afD => k_is)
    (case lfD => k_is)
    (case cfD => k_is)
    (case kfD => k_is)
    (case afQ => k_is)
    (case lfQ => k_is)
    (case cfQ => k_is)
    (case kfQ => k_is)
    (case afK => k_is)
    (case lfK => k_is)
    (case cfK => k_is)
    (case kfK => k_is)
    (case afV => k_is)
    (case lfV => k_is)
    (case cfV => k_is)
    (case kfV => k_is)
    (case afA => k_is)
    (case lfA => k_is)
    (case cfA => k_is)
    (case kfA => k_is)
    (case afZ => k_is)
    (case lfZ => k_is)
    (case cfZ => k_is)
    (case kfZ => k_is)
    (case afX => k_is)
    (case lfX => k_is)
    (case cfX => k_is)
    (case kfX => k_is)
    (case afLaw => k_is)
    (case lfLaw => k_is)
    (case cfLaw => k_is)
    (case kfLaw => k_is)

