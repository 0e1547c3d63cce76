import PyProof.Rows.All
import Wide.All
import OpenK.AllK
import Wide.FinOn
import HandS.Base
import HandS.Call
import HandS.List
import HandS.Comp
import HandS.Ends
import HandS.Words
import HandS.WordsList
import HandS.Exc
import HandS.TryOnly
import HandS.ExcOwn
import HandS.WordsExc
import HandS.TryMany
import HandS.ClsMeth
import HandS.IsInst
import HandS.TupAny
import HandS.TupMul
import HandS.Conv
import HandS.Zip
import HandS.Codes

import HandS.SlotsOwn
import PySem.Challenge.RW_twicewashed_k04_length_washed
set_option Elab.async false
set_option maxRecDepth 100000
set_option maxHeartbeats 4000000
namespace RD
open PySem L2
section
variable {σ σ' : L2.St} {H H1 : Hp} {Q : VK} {D : Ends} {v x y : V} {ta tb tc te : TE} {t u c : TT} {s1 s2 ts : TS} {r r' : R2} {K : PySem.W.Frag} {p a C dx : Addr} {xs ys vs : List V} {i j k : Int} {b b' : Bool} {A : TA}
/-! statements -/
theorem r_start {N : List Str} (e : start N vs = σ') (q : ts D σ' H) : ts D (start N vs) H := e ▸ q
theorem r_seq (h : s1 { D with nx := s2 D } σ H) : tSeq s1 s2 D σ H := h
theorem r_next (h : D.nx σ H) : tNext D σ H := h
theorem r_drop (h : te σ H fun _ H1 => D.nx σ H1) : tDrop te D σ H := h
theorem r_ret (h : te σ H D.rt) : tRet te D σ H := h
theorem r_retN (h : D.rt .non H) : tRetN D σ H := h
theorem r_ifS (h : c σ H fun b H1 => if b = true then s1 D σ H1 else s2 D σ H1) : tIfS c s1 s2 D σ H := h
theorem r_asg {g : TG} (h : te σ H fun x H1 => g x σ H1 D.nx) : tAsg te g D σ H := h
inductive SetAt {α : Type} : List α → Nat → α → List α → Prop
  | zero {x v : α} {l : List α} : SetAt (x :: l) 0 v (v :: l)
  | succ {x v : α} {l l' : List α} {n : Nat} (h : SetAt l n v l') : SetAt (x :: l) (n + 1) v (x :: l')
theorem SetAt.eq {α : Type} {l l' : List α} {n : Nat} {v : α} (h : SetAt l n v l') : l.set n v = l' := by
  induction h with
  | zero => rfl
  | succ _ ih => rw [List.set_cons_succ, ih]
theorem SetAt.lt {α : Type} {l l' : List α} {n : Nat} {v : α} (h : SetAt l n v l') : n < l.length := by
  induction h with
  | zero => exact Nat.succ_pos _
  | succ _ ih => exact Nat.succ_lt_succ ih
theorem r_name {n : Nat} {R : L2.St → Hp → Prop} (h : SetAt σ n (some v) σ') (q : R σ' H) : gName n v σ H R := by
  show R (σ.set n (some v)) H
  rw [h.eq]; exact q
theorem r_gsub {to ti : TE} {tset : TSet} {R : L2.St → Hp → Prop} (h : to σ H fun o H1 => ti σ H1 fun i H2 => tset o i v H2 fun H3 => R σ H3) : gSub to ti tset v σ H R := h
theorem ixN_nat {m n : Nat} (h : n < m) : ixN m (Int.ofNat n) = some n := by
  show ixN m (n : Int) = some n
  unfold ixN
  rw [if_pos (by omega), if_pos (by omega)]; simp
theorem r_setL {n : Nat} {R : Hp → Prop} (hp : H p = some (.lst xs)) (hi : i = Int.ofNat n) (hs : SetAt xs n v ys) (q : R (upd H p (.lst ys))) : rSetL (.ref p) (.int i) v H R := ⟨p, xs, i, n, rfl, rfl, hp, by rw [hi]; exact ixN_nat hs.lt, by rw [hs.eq]; exact q⟩
theorem r_gtup {n : Nat} {g : TGs} {R : L2.St → Hp → Prop} (h : SqT K H p xs) (e : xs.length = n) (q : g xs σ H R) : gTup K n g (.ref p) σ H R := ⟨p, xs, rfl, h, e, q⟩
theorem r_gnil {R : L2.St → Hp → Prop} (q : R σ H) : gNil [] σ H R := ⟨rfl, q⟩
theorem r_gcons {g : TG} {g' : TGs} {R : L2.St → Hp → Prop} (q : g v σ H fun σ' H' => g' vs σ' H' R) : gCons g g' (v :: vs) σ H R := ⟨v, vs, rfl, q⟩
/-! expressions -/
theorem r_var {n : Nat} (h : σ[n]? = some (some v)) (q : Q v H) : tVar n σ H Q := ⟨v, h, q⟩
theorem r_c (q : Q v H) : tC v σ H Q := q
theorem r_op (h : ta σ H fun x H1 => tb σ H1 fun y H2 => r x y H2 Q) : tOp r ta tb σ H Q := h
theorem r_un {r : V → Hp → VK → Prop} (h : ta σ H fun x H1 => r x H1 Q) : tUn r ta σ H Q := h
theorem r_rI0 {g : Int → Int → V} (q : Q (g i j) H) : rI0 g (.int i) (.int j) H Q := ⟨i, j, rfl, rfl, q⟩
theorem r_rI {Cc : Int → Int → Prop} {g : Int → Int → V} (hc : Cc i j) (q : Q (g i j) H) : rI Cc g (.int i) (.int j) H Q := ⟨i, j, rfl, rfl, hc, q⟩
theorem r_rU {g : Int → V} (q : Q (g i) H) : rU g (.int i) H Q := ⟨i, rfl, q⟩
theorem r_eqI (q : Q (.bl (decide (i = j))) H) : rEq (.int i) (.int j) H Q := ⟨rfl, by
  have e : decide (V.int i = V.int j) = decide (i = j) := by rw [Bool.eq_iff_iff]; simp
  rw [e]; exact q⟩
theorem r_neI (q : Q (.bl (!decide (i = j))) H) : rNe (.int i) (.int j) H Q := ⟨rfl, by
  have e : decide (V.int i = V.int j) = decide (i = j) := by rw [Bool.eq_iff_iff]; simp
  rw [e]; exact q⟩
theorem r_eqS {m n : Str} (q : Q (.bl (decide (m = n))) H) : rEq (.str m) (.str n) H Q := ⟨rfl, by
  have e : decide (V.str m = V.str n) = decide (m = n) := by rw [Bool.eq_iff_iff]; simp
  rw [e]; exact q⟩
theorem r_neS {m n : Str} (q : Q (.bl (!decide (m = n))) H) : rNe (.str m) (.str n) H Q := ⟨rfl, by
  have e : decide (V.str m = V.str n) = decide (m = n) := by rw [Bool.eq_iff_iff]; simp
  rw [e]; exact q⟩
theorem r_test {t : TE} {R : Bool → Hp → Prop} (h : t σ H fun x H' => ∃ k, x = .bl k ∧ R k H') : tTest t σ H R := h
theorem r_B {t : TE} {R : Bool → Hp → Prop} (h : t σ H fun x H' => ∃ k, x = .bl k ∧ R k H') : tB t σ H R := h
theorem r_bl {R : Bool → Prop} (q : R b) : ∃ k, V.bl b = .bl k ∧ R k := ⟨b, rfl, q⟩
theorem r_and {R : Bool → Hp → Prop} (h : t σ H fun c H1 => if c = true then u σ H1 R else R false H1) : tAnd t u σ H R := h
theorem r_or {R : Bool → Hp → Prop} (h : t σ H fun c H1 => if c = true then R true H1 else u σ H1 R) : tOr t u σ H R := h
theorem r_not {R : Bool → Hp → Prop} (h : t σ H fun c H1 => R (!c) H1) : tNot t σ H R := h
theorem r_andV (h : ta σ H fun x H1 => ∃ c, x = .bl c ∧ if c = true then tb σ H1 Q else Q (.bl false) H1) : tAndV ta tb σ H Q := h
theorem r_orV (h : ta σ H fun x H1 => ∃ c, x = .bl c ∧ if c = true then Q (.bl true) H1 else tb σ H1 Q) : tOrV ta tb σ H Q := h
theorem r_notV (h : ta σ H fun x H1 => ∃ c, x = .bl c ∧ Q (.bl (!c)) H1) : tNotV ta σ H Q := h
theorem r_ifE (h : t σ H fun c H1 => if c = true then ta σ H1 Q else tb σ H1 Q) : tIf t ta tb σ H Q := h
theorem r_chain (h : ta σ H fun x H1 => tb σ H1 fun y H2 => r x y H2 fun z H3 => ∃ k, z = .bl k ∧ if k = true then tc σ H3 (fun w H4 => r' y w H4 Q) else Q (.bl false) H3) : tChain r r' ta tb tc σ H Q := h
theorem r_ixL (hp : SqL K H p xs) (e : atI xs i = some v) (q : Q v H) : rIxL K (.ref p) (.int i) H Q := ⟨p, xs, i, v, rfl, rfl, hp, e, q⟩
theorem r_ixT (hp : SqT K H p xs) (e : atI xs i = some v) (q : Q v H) : rIxT K (.ref p) (.int i) H Q := ⟨p, xs, i, v, rfl, rfl, hp, e, q⟩
theorem r_cb {rr : List V → Hp → VK → Prop} (h : A σ H fun vs H1 => rr vs H1 Q) : tCB rr A σ H Q := h
theorem r_nil {R : List V → Hp → Prop} (q : R [] H) : tNil σ H R := q
theorem r_cons {R : List V → Hp → Prop} (h : ta σ H fun x H1 => A σ H1 fun xs H2 => R (x :: xs) H2) : tCons ta A σ H R := h
theorem r_tup (h : A σ H fun xs H1 => xs.length ≤ sizeLine ∧ ∀ p, H1 p = none → Q (.ref p) (upd H1 p (.tup xs))) : tTup A σ H Q := h
theorem r_lst (h : A σ H fun xs H1 => xs.length ≤ sizeLine ∧ ∀ p, H1 p = none → Q (.ref p) (upd H1 p (.lst xs))) : tLst A σ H Q := h
def rLen (K : PySem.W.Frag) : List V → Hp → VK → Prop := fun xs H Q => ∃ p ys, xs = [.ref p] ∧ (SqL K H p ys ∨ SqT K H p ys) ∧ Q (.int ys.length) H
theorem r_cbLen (h : A σ H fun vs H1 => rLen K vs H1 Q) : tCB (fun xs H Q => ∃ p ys, xs = [V.ref p] ∧ (SqL K H p ys ∨ SqT K H p ys) ∧ Q (V.int ys.length) H) A σ H Q := h
theorem r_len (hq : SqL K H p ys ∨ SqT K H p ys) (q : Q (.int ys.length) H) : rLen K [.ref p] H Q := ⟨p, ys, rfl, hq, q⟩
def rInt1 : List V → Hp → VK → Prop := fun xs H Q => (∃ i, xs = [.int i] ∧ Q (.int i) H) ∨ ∃ k, xs = [.bl k] ∧ Q (.int (if k then 1 else 0)) H
theorem r_cbInt (h : A σ H fun vs H1 => rInt1 vs H1 Q) : tCB (fun xs H Q => (∃ i, xs = [V.int i] ∧ Q (V.int i) H) ∨ ∃ k, xs = [V.bl k] ∧ Q (V.int (if k then 1 else 0)) H) A σ H Q := h
theorem r_int1 (q : Q (.int i) H) : rInt1 [.int i] H Q := .inl ⟨i, rfl, q⟩
theorem r_intB (q : Q (.int (if b then 1 else 0)) H) : rInt1 [.bl b] H Q := .inr ⟨b, rfl, q⟩
def rListOf (K : PySem.W.Frag) : List V → Hp → VK → Prop := fun xs H Q => ∃ p ys, xs = [.ref p] ∧ (SqL K H p ys ∨ SqT K H p ys) ∧ ∀ l, H l = none → Q (.ref l) (upd H l (.lst ys))
theorem r_cbList (h : A σ H fun vs H1 => rListOf K vs H1 Q) : tCB (fun xs H Q => ∃ p ys, xs = [V.ref p] ∧ (SqL K H p ys ∨ SqT K H p ys) ∧ ∀ l, H l = none → Q (.ref l) (upd H l (.lst ys))) A σ H Q := h
theorem r_listOf (hq : SqL K H p ys ∨ SqT K H p ys) (q : ∀ l, H l = none → Q (.ref l) (upd H l (.lst ys))) : rListOf K [.ref p] H Q := ⟨p, ys, rfl, hq, q⟩
def rTupOf (K : PySem.W.Frag) : List V → Hp → VK → Prop := fun xs H Q => ∃ p ys, xs = [.ref p] ∧ ((SqL K H p ys ∧ ∀ l, H l = none → Q (.ref l) (upd H l (.tup ys))) ∨ (SqT K H p ys ∧ Q (.ref p) H))
theorem r_cbTup (h : A σ H fun vs H1 => rTupOf K vs H1 Q) : tCB (fun xs H Q => ∃ p ys, xs = [V.ref p] ∧ ((SqL K H p ys ∧ ∀ l, H l = none → Q (.ref l) (upd H l (.tup ys))) ∨ (SqT K H p ys ∧ Q (.ref p) H))) A σ H Q := h
theorem r_tupOfL (hq : SqL K H p ys) (q : ∀ l, H l = none → Q (.ref l) (upd H l (.tup ys))) : rTupOf K [.ref p] H Q := ⟨p, ys, rfl, .inl ⟨hq, q⟩⟩
theorem r_tupOfT (hq : SqT K H p ys) (q : Q (.ref p) H) : rTupOf K [.ref p] H Q := ⟨p, ys, rfl, .inr ⟨hq, q⟩⟩
theorem r_tupAny (hl : H p = some (.lst ys) ∨ H p = some (.tup ys)) (q : ∀ l H1, (∀ b o, H b = some o → H1 b = some o) → H1 l = some (.tup ys) → Q (.ref l) H1) : rTupOf K [.ref p] H Q := by
  rcases hl with h | h
  · exact r_tupOfL (SqL.of h) fun l hn => q l _ (fun b o e => by rw [upd_ne (ne_of_none e hn)]; exact e) upd_same
  · exact r_tupOfT (SqT.of h) (q p H (fun _ _ e => e) h)
theorem at_ints {ns : List Int} {z : Int} (h0 : 0 ≤ z) (h1 : z < (ns.map V.int).length) : atI (ns.map V.int) z = some (V.int (ns.getD z.toNat 0)) := by
  rw [List.length_map] at h1
  have e : z = ((z.toNat : Nat) : Int) := by omega
  have h : z.toNat < ns.length := by omega
  rw [e]
  refine atI_nat ?_
  rw [List.getElem?_map, List.getElem?_eq_getElem h, Int.toNat_natCast, List.getD_eq_getElem?_getD, List.getElem?_eq_getElem h]; rfl
def isIntV : V → Bool
  | .int _ => true
  | _ => false
theorem all_get {n : Nat} (h : xs.all isIntV = true) (e : xs[n]? = some v) : ∃ z : Int, v = .int z := by
  have hb := List.all_eq_true.mp h _ (List.mem_of_getElem? e)
  cases v with
  | int z => exact ⟨z, rfl⟩
  | _ => exact absurd hb (by simp [isIntV])
theorem all_rg {a b : Int} : (rgV a b).all isIntV = true := by
  unfold rgV
  rw [List.all_map]
  exact List.all_eq_true.mpr fun _ _ => rfl
theorem r_ixMenu (h : H p = some (.lst xs)) (hall : xs.all isIntV = true) (h0 : 0 ≤ i) (h1 : i < xs.length) (q : ∀ z : Int, V.int z ∈ xs → Q (.int z) H) : rIxL K (.ref p) (.int i) H Q := by
  have hlt : i.toNat < xs.length := by omega
  have hm := List.getElem_mem hlt
  have hb := List.all_eq_true.mp hall _ hm
  have e : i = ((i.toNat : Nat) : Int) := by omega
  cases hx : xs[i.toNat] with
  | int z => exact r_ixL (SqL.of h) (by rw [e]; exact atI_nat (by rw [List.getElem?_eq_getElem (by simpa using hlt)]; simpa using hx)) (q z (hx ▸ hm))
  | _ => rw [hx] at hb; exact absurd hb (by simp [isIntV])
/-! branches -/
theorem r_ite {cc : Prop} [Decidable cc] {X Y : Prop} (h1 : cc → X) (h2 : ¬ cc → Y) : if decide cc = true then X else Y := by
  by_cases h : cc
  · rw [decide_eq_true h]; exact iteT (h1 h)
  · rw [decide_eq_false h]; exact iteF (h2 h)
theorem r_iteN {cc : Prop} [Decidable cc] {X Y : Prop} (h1 : ¬ cc → X) (h2 : cc → Y) : if (!decide cc) = true then X else Y := by
  by_cases h : cc
  · rw [decide_eq_true h]; exact iteF (h2 h)
  · rw [decide_eq_false h]; exact iteT (h1 h)
theorem r_yes {cc : Prop} [Decidable cc] {X Y : Prop} (h : cc) (h1 : X) : if decide cc = true then X else Y := by rw [decide_eq_true h]; exact iteT h1
theorem r_no {cc : Prop} [Decidable cc] {X Y : Prop} (h : ¬ cc) (h1 : Y) : if decide cc = true then X else Y := by rw [decide_eq_false h]; exact iteF h1
theorem r_yesN {cc : Prop} [Decidable cc] {X Y : Prop} (h : ¬ cc) (h1 : X) : if (!decide cc) = true then X else Y := by rw [decide_eq_false h]; exact iteT h1
theorem r_noN {cc : Prop} [Decidable cc] {X Y : Prop} (h : cc) (h1 : Y) : if (!decide cc) = true then X else Y := by rw [decide_eq_true h]; exact iteF h1
theorem r_iteNF {X Y : Prop} (h1 : X) : if (!false) = true then X else Y := iteT h1
theorem r_iteNT {X Y : Prop} (h1 : Y) : if (!true) = true then X else Y := iteF h1
def rFld (K : PySem.W.Frag) (f : Str) : V → Hp → VK → Prop := fun x H1 Q => ∃ a C dx fs v, x = .ref a ∧ H1 a = some (.ins C dx fs) ∧ Cls K C ∧ NoAttr K C f ∧ fs.lookup f = some v ∧ Q v H1
theorem r_tfld {f : Str} (h : ta σ H fun x H1 => rFld K f x H1 Q) : tFld K ta f σ H Q := h
theorem r_fld {f : Str} {fs : List (Str × V)} (e : H a = some (.ins C dx fs)) (c : Cls K C) (n : NoAttr K C f) (l : fs.lookup f = some v) (q : Q v H) : rFld K f (.ref a) H Q := ⟨a, C, dx, fs, v, rfl, e, c, n, l, q⟩
def rSFld (K : PySem.W.Frag) (f : Str) (y : V) : V → Hp → (Hp → Prop) → Prop := fun x H2 R => ∃ a C dx fs, x = .ref a ∧ H2 a = some (.ins C dx fs) ∧ Cls K C ∧ NoAttr K C f ∧ fs.length < 1000 ∧ R (upd H2 a (.ins C dx (putF f y fs)))
theorem r_sfld {f : Str} {tv : TE} (h : tv σ H fun y H1 => ta σ H1 fun x H2 => rSFld K f y x H2 (D.nx σ)) : sFld K ta tv f D σ H := h
theorem r_sf {f : Str} {fs gs : List (Str × V)} {R : Hp → Prop} (e : H a = some (.ins C dx fs)) (c : Cls K C) (n : NoAttr K C f) (l : fs.length < 1000) (g : putF f y fs = gs) (q : R (upd H a (.ins C dx gs))) : rSFld K f y (.ref a) H R := ⟨a, C, dx, fs, rfl, e, c, n, l, by rw [g]; exact q⟩
def rCV (K : PySem.W.Frag) (f : Str) : V → Hp → VK → Prop := fun x H1 Q => ∃ C mc v u, x = .ref C ∧ ClX.CRead K C mc ∧ ClX.CVal K C mc f v u ∧ Q v H1
theorem r_tcval {f : Str} (h : ta σ H fun x H1 => rCV K f x H1 Q) : ClX.tCVal K ta f σ H Q := h
theorem r_cv {f : Str} {mc : Value} {u : Value} (r : ClX.CRead K C mc) (k : ClX.CVal K C mc f v u) (q : Q v H) : rCV K f (.ref C) H Q := ⟨C, mc, v, u, rfl, r, k, q⟩
theorem r_forT {n : Nat} {g : TG} {tb : TS} (ha : σ[n]? = some (some (.ref a))) (hS : SqT K H a xs) (Pv : Nat → L2.St → Hp → Prop) (h0 : Pv 0 σ H) (hl : ∀ i σ H, i ≤ xs.length → Pv i σ H → SqT K H a xs)
    (hs : ∀ i x σ H, xs[i]? = some x → Pv i σ H → g x σ H fun σ2 H2 => tb { D with nx := Pv (i + 1), ct := Pv (i + 1), bk := D.nx } σ2 H2) (hd : ∀ σ H, Pv xs.length σ H → D.nx σ H) : tFor (iTup K (tVar n)) g tb D σ H :=
  ⟨_, ha, a, rfl, ⟨_, hS⟩, for_tup Pv h0 hl hs hd⟩
theorem r_isiII (q : Q (.bl true) H) : rIsi K [.int i, .ty "int"] H Q := ⟨_, _, _, _, true, rfl, .ty _, .base (.int _), kit_ty (by decide +kernel), q⟩
theorem r_isiIB (q : Q (.bl false) H) : rIsi K [.int i, .ty "bool"] H Q := ⟨_, _, _, _, false, rfl, .ty _, .base (.int _), kit_ty (by decide +kernel), q⟩
theorem r_isiTT (h : H a = some (.tup xs)) (q : Q (.bl true) H) : rIsi K [.ref a, .ty "tuple"] H Q := ⟨_, _, _, _, true, rfl, .ty _, .base (.tup h), kit_ty (by decide +kernel), q⟩
theorem upd_at {q : Addr} {o u : HO} (h : q ≠ p) (e : H q = some u) : upd H p o q = some u := by rw [upd_ne h]; exact e
/-! tuples and lists of ints compared -/
theorem dp_ints : ∀ ns : List Int, DpAll K H (ns.map V.int) (ns.map PyData.int)
  | [] => .nil
  | n :: r => .cons (.int n) (dp_ints r)
theorem eqv_ints : ∀ ns ms : List Int, PyData.eqvAll (ns.map PyData.int) (ms.map PyData.int) = decide (ns = ms)
  | [], [] => rfl
  | [], _ :: _ => rfl
  | _ :: _, [] => rfl
  | n :: r, m :: q => by
    show (PyData.eqv (.int n) (.int m) && PyData.eqvAll (r.map PyData.int) (q.map PyData.int)) = _
    rw [eqv_ints r q]
    show ((n == m) && decide (r = q)) = _
    rw [Bool.eq_iff_iff]; simp
theorem can_ints : ∀ ns : List Int, PyData.canLayAll0 (ns.map PyData.int) = true
  | [] => rfl
  | _ :: r => can_ints r
theorem depth_ints : ∀ ns : List Int, PyData.depthAll (ns.map PyData.int) = 0
  | [] => rfl
  | _ :: r => by show max 0 (PyData.depthAll (r.map PyData.int)) = 0; rw [depth_ints r]; rfl
theorem shaped_ints (ns : List Int) : SeqAt.shaped (.tuple (ns.map PyData.int)) = true := by
  show (PyData.canLayAll0 (ns.map PyData.int) && decide (PyData.depthAll (ns.map PyData.int) + 1 ≤ 64)) = true
  rw [can_ints, depth_ints]; rfl
theorem shaped_intsL (ns : List Int) : SeqAt.shaped (.list (ns.map PyData.int)) = true := by
  show (PyData.canLayAll0 (ns.map PyData.int) && decide (PyData.depthAll (ns.map PyData.int) + 1 ≤ 64)) = true
  rw [can_ints, depth_ints]; rfl
theorem r_eqTT {q : Addr} {ns ms : List Int} (h1 : SqT K H p (ns.map V.int)) (h2 : SqT K H q (ms.map V.int)) (z : Q (.bl (decide (ns = ms))) H) : rEqD K (.ref p) (.ref q) H Q :=
  ⟨_, _, .tup h1 (dp_ints ns), .tup h2 (dp_ints ms), shaped_ints ns, shaped_ints ms, by show Q (.bl (PyData.eqvAll _ _)) H; rw [eqv_ints]; exact z⟩
theorem r_neTT {q : Addr} {ns ms : List Int} (h1 : SqT K H p (ns.map V.int)) (h2 : SqT K H q (ms.map V.int)) (z : Q (.bl (!decide (ns = ms))) H) : rNeD K (.ref p) (.ref q) H Q :=
  ⟨_, _, .tup h1 (dp_ints ns), .tup h2 (dp_ints ms), shaped_ints ns, shaped_ints ms, by show Q (.bl (!PyData.eqvAll _ _)) H; rw [eqv_ints]; exact z⟩
theorem r_eqLL {q : Addr} {ns ms : List Int} (h1 : SqL K H p (ns.map V.int)) (h2 : SqL K H q (ms.map V.int)) (z : Q (.bl (decide (ns = ms))) H) : rEqD K (.ref p) (.ref q) H Q :=
  ⟨_, _, .lst h1 (dp_ints ns), .lst h2 (dp_ints ms), shaped_intsL ns, shaped_intsL ms, by show Q (.bl (PyData.eqvAll _ _)) H; rw [eqv_ints]; exact z⟩
theorem r_neLL {q : Addr} {ns ms : List Int} (h1 : SqL K H p (ns.map V.int)) (h2 : SqL K H q (ms.map V.int)) (z : Q (.bl (!decide (ns = ms))) H) : rNeD K (.ref p) (.ref q) H Q :=
  ⟨_, _, .lst h1 (dp_ints ns), .lst h2 (dp_ints ms), shaped_intsL ns, shaped_intsL ms, by show Q (.bl (!PyData.eqvAll _ _)) H; rw [eqv_ints]; exact z⟩
theorem r_neNil {q : Addr} (h1 : SqL K H p []) (h2 : SqL K H q []) (z : Q (.bl false) H) : rNeD K (.ref p) (.ref q) H Q := r_neLL (ns := []) (ms := []) h1 h2 (by simpa using z)
theorem r_eqNil {q : Addr} (h1 : SqL K H p []) (h2 : SqL K H q []) (z : Q (.bl true) H) : rEqD K (.ref p) (.ref q) H Q := r_eqLL (ns := []) (ms := []) h1 h2 (by simpa using z)
/-! slices of tuples of ints, sums of them -/
theorem r_tsl {r : V → Option Int → Option Int → Hp → VK → Prop} {tl th : TO} (h : te σ H fun x H1 => tl σ H1 fun l H2 => th σ H2 fun w H3 => r x l w H3 Q) : tSl r te tl th σ H Q := h
theorem r_noPart {R : Option Int → Hp → Prop} (q : R none H) : tNoPart σ H R := q
def rPart : V → Hp → (Option Int → Hp → Prop) → Prop := fun x H1 R => ∃ i, x = .int i ∧ R (some i) H1
theorem r_tpart {R : Option Int → Hp → Prop} (h : ta σ H fun x H1 => rPart x H1 R) : tPart ta σ H R := h
theorem r_part {R : Option Int → Hp → Prop} (q : R (some i) H) : rPart (.int i) H R := ⟨i, rfl, q⟩
theorem r_slAny {lo hi : Option Int} (h : H a = some (.tup xs)) (q : ∀ p H', (∀ b o, H b = some o → H' b = some o) → H' p = some (.tup (cutV xs lo hi)) → Q (.ref p) H') : rSlA K (.ref a) lo hi H Q :=
  ⟨a, xs, rfl, SqT.of h, fun e => q a H (fun _ _ e => e) (by
    rw [h]
    unfold cutV
    rw [e.1, e.2, List.drop_zero, Nat.sub_zero, List.take_length]), fun _ p hp => q p _ (fun b o e => by rw [upd_ne (ne_of_none e hp)]; exact e) upd_same⟩
theorem cut_take {ns : List Int} {j : Nat} (h : j ≤ ns.length) : cutV (ns.map V.int) none (some (j : Int)) = (ns.take j).map V.int := by
  unfold cutV
  rw [HT.sIx_none, HT.sIx_nat, List.drop_zero, Nat.sub_zero, List.length_map, Nat.min_eq_left h, List.map_take]
theorem cut_drop {ns : List Int} {j : Nat} (h : j ≤ ns.length) : cutV (ns.map V.int) (some (j : Int)) none = (ns.drop j).map V.int := by
  unfold cutV
  rw [HT.sIx_none, HT.sIx_nat, List.length_map, Nat.min_eq_left h, List.map_drop]
  exact List.take_of_length_le (by simp)
theorem r_catI {b : Addr} {ns ms : List Int} (h1 : H a = some (.tup (ns.map V.int))) (h2 : H b = some (.tup (ms.map V.int))) (hz : ns.length + ms.length ≤ 1000)
    (q : ∀ p H', (∀ b o, H b = some o → H' b = some o) → H' p = some (.tup ((ns ++ ms).map V.int)) → Q (.ref p) H') : rCatA K (.ref a) (.ref b) H Q := by
  refine ⟨a, b, _, _, rfl, rfl, SqT.of h1, SqT.of h2, by rw [List.length_map, List.length_map]; exact Nat.le_trans hz (by decide), fun e => ?_, fun _ e => ?_, fun _ _ p hp => ?_⟩
  · have e' : ns = [] := List.map_eq_nil_iff.mp e
    subst e'
    exact q b H (fun _ _ e => e) h2
  · have e' : ms = [] := List.map_eq_nil_iff.mp e
    subst e'
    exact q a H (fun _ _ e => e) (by rw [List.append_nil]; exact h1)
  · refine q p _ (fun c o e => by rw [upd_ne (ne_of_none e hp)]; exact e) ?_
    rw [upd_same, List.map_append]
/-! stores at open places, lists joined, loops over what an expression gives -/
theorem r_setI {ns : List Int} {w : Int} {R : Hp → Prop} (hp : H p = some (.lst (ns.map V.int))) (h0 : 0 ≤ i) (h1 : i < ns.length) (q : R (upd H p (.lst ((ns.set i.toNat w).map V.int)))) : rSetL (.ref p) (.int i) (.int w) H R :=
  ⟨p, _, i, i.toNat, rfl, rfl, hp, by
    have e : i = Int.ofNat i.toNat := by show i = ((i.toNat : Nat) : Int); omega
    rw [List.length_map]
    conv => lhs; rw [e]
    exact ixN_nat (by omega), by rw [← List.map_set]; exact q⟩
theorem r_cat {b : Addr} (h1 : H a = some (.lst xs)) (h2 : H b = some (.lst ys)) (hz : xs.length + ys.length ≤ 1000) (q : ∀ p, H p = none → Q (.ref p) (upd H p (.lst (xs ++ ys)))) : rCat (.ref a) (.ref b) H Q :=
  ⟨a, b, xs, ys, rfl, rfl, h1, h2, Nat.le_trans hz (by decide), q⟩
def rLstRg : V → Hp → VK → Prop := fun x H1 Q => ∃ n, x = .int n ∧ RgOk 0 n ∧ ∀ q, H1 q = none → Q (.ref q) (upd H1 q (.lst (rgV 0 n)))
theorem r_tlstRg (h : ta σ H fun x H1 => rLstRg x H1 Q) : tLstRg (tRg1 ta) σ H Q := h
theorem r_lstRg (h0 : 0 ≤ i) (h1 : i ≤ 1000) (q : ∀ l, H l = none → Q (.ref l) (upd H l (.lst (rgV 0 i)))) : rLstRg (.int i) H Q := ⟨i, rfl, RgOk.of_le (by omega) (by omega) (by omega) (by omega), q⟩
theorem rg_int {n : Int} {j : Nat} {x : V} (h : (rgV 0 n)[j]? = some x) : ∃ z : Int, x = V.int z := by
  unfold rgV at h
  rw [List.getElem?_map] at h
  cases e : (List.range (n - 0).toNat)[j]? with
  | none => rw [e] at h; cases h
  | some k => rw [e] at h; exact ⟨_, (Option.some.inj h).symm⟩
def rForT (K : PySem.W.Frag) (g : TG) (tb : TS) (D : Ends) (σ : L2.St) : V → Hp → Prop := fun x H1 => ∃ a, x = .ref a ∧ (∃ xs, SqT K H1 a xs) ∧ ∃ W : Nat → Nat → L2.St → Hp → Prop, (∃ m, W 0 m σ H1) ∧ ∀ i m σ H, W i m σ H →
      ((Itt K a).stop i H ∧ D.nx σ H) ∨ ((Itt K a).go i H ∧ ∃ N : L2.St → Hp → Prop, (∀ σ' H', N σ' H' → ∃ m', m' < m ∧ W (i + 1) m' σ' H') ∧ ∀ x H', (Itt K a).yld i H x H' → g x σ H' fun σ2 H2 => tb { D with nx := N, ct := N, bk := D.nx } σ2 H2)
theorem r_forTe {g : TG} {tb : TS} (h : te σ H fun x H1 => rForT K g tb D σ x H1) : tFor (iTup K te) g tb D σ H := h
theorem r_forTx {g : TG} {tb : TS} (hS : SqT K H a xs) (Pv : Nat → L2.St → Hp → Prop) (h0 : Pv 0 σ H) (hl : ∀ i σ H, i ≤ xs.length → Pv i σ H → SqT K H a xs)
    (hs : ∀ i x σ H, xs[i]? = some x → Pv i σ H → g x σ H fun σ2 H2 => tb { D with nx := Pv (i + 1), ct := Pv (i + 1), bk := D.nx } σ2 H2) (hd : ∀ σ H, Pv xs.length σ H → D.nx σ H) : rForT K g tb D σ (.ref a) H :=
  ⟨a, rfl, ⟨_, hS⟩, for_tup Pv h0 hl hs hd⟩
def rForL (K : PySem.W.Frag) (g : TG) (tb : TS) (D : Ends) (σ : L2.St) : V → Hp → Prop := fun x H1 => ∃ a, x = .ref a ∧ (∃ xs, SqL K H1 a xs) ∧ ∃ W : Nat → Nat → L2.St → Hp → Prop, (∃ m, W 0 m σ H1) ∧ ∀ i m σ H, W i m σ H →
      ((Itl K a).stop i H ∧ D.nx σ H) ∨ ((Itl K a).go i H ∧ ∃ N : L2.St → Hp → Prop, (∀ σ' H', N σ' H' → ∃ m', m' < m ∧ W (i + 1) m' σ' H') ∧ ∀ x H', (Itl K a).yld i H x H' → g x σ H' fun σ2 H2 => tb { D with nx := N, ct := N, bk := D.nx } σ2 H2)
theorem r_forLe {g : TG} {tb : TS} (h : te σ H fun x H1 => rForL K g tb D σ x H1) : tFor (iList K te) g tb D σ H := h
theorem r_forLx {g : TG} {tb : TS} (hS : SqL K H a xs) (Pv : Nat → L2.St → Hp → Prop) (h0 : Pv 0 σ H) (hl : ∀ i σ H, i ≤ xs.length → Pv i σ H → SqL K H a xs)
    (hs : ∀ i x σ H, xs[i]? = some x → Pv i σ H → g x σ H fun σ2 H2 => tb { D with nx := Pv (i + 1), ct := Pv (i + 1), bk := D.nx } σ2 H2) (hd : ∀ σ H, Pv xs.length σ H → D.nx σ H) : rForL K g tb D σ (.ref a) H :=
  ⟨a, rfl, ⟨_, hS⟩, for_list Pv h0 hl hs hd⟩
theorem r_tyes {R : Bool → Hp → Prop} (q : R true H) : tYes σ H R := q
/-! calls -/
theorem r_tcall {sp : Sp} {dvs : List V} {E : XK} (h : A σ H fun vs H1 => sp (vs ++ dvs) H1 Q E) : tCall sp dvs E A σ H Q := h
theorem r_tcallS {sp : Sp} {E : L2.St → XK} (h : A σ H fun vs H1 => sp vs H1 Q (E σ)) : tCallS sp E A σ H Q := h
def rMake (C : Addr) (sp : Sp) (dvs : List V) (E : XK) : List V → Hp → VK → Prop := fun vs H1 Q => ∀ x dx, H1 x = none → H1 dx = none → dx ≠ x →
  sp (.ref x :: (vs ++ dvs)) (upd (upd H1 dx (.own x)) x (.ins C dx [])) (fun v H2 => v = .non ∧ Q (.ref x) H2) E
theorem r_tmake {sp : Sp} {dvs : List V} {E : XK} (h : A σ H fun vs H1 => rMake C sp dvs E vs H1 Q) : tMake C sp dvs E A σ H Q := h
/-! a list's append -/
def rBM (K : PySem.W.Frag) (T : String) (r : V → List V → Hp → VK → Prop) (A : TA) (σ : L2.St) : V → Hp → VK → Prop := fun x H1 Q => tyV K T x H1 ∧ A σ H1 fun xs H2 => r x xs H2 Q
theorem r_tbm {T : String} {r : V → List V → Hp → VK → Prop} (h : ta σ H fun x H1 => rBM K T r A σ x H1 Q) : tBM K T r ta A σ H Q := h
theorem r_bmL {r : V → List V → Hp → VK → Prop} (h : H a = some (.lst xs)) (q : A σ H fun ys H2 => r (.ref a) ys H2 Q) : rBM K "list" r A σ (.ref a) H Q := ⟨Or.inl ⟨rfl, _, SqL.of h⟩, q⟩
theorem r_app (h : H a = some (.lst xs)) (z : xs.length ≤ 1000) (q : Q .non (upd H a (.lst (xs ++ [y])))) : rAppend (.ref a) [y] H Q := ⟨a, xs, y, rfl, rfl, h, Nat.lt_of_le_of_lt z (by decide), q⟩
theorem map_app (xs : List Int) (y : Int) : xs.map V.int ++ [V.int y] = (xs ++ [y]).map V.int := by simp
theorem ne_new {b : Addr} {o : HO} (h' : H b = none) (h : H a = some o) : a ≠ b := ne_of_none h h'
theorem r_new {R : Addr → Hp → Prop} {o : HO} (z : xs.length ≤ 1000) (q : ∀ l, H l = none → R l (upd H l o)) : xs.length ≤ sizeLine ∧ ∀ l, H l = none → R l (upd H l o) := ⟨Nat.le_trans z (by decide), q⟩
theorem upd_new {q l : Addr} {o u : HO} (hl : H l = none) (e : H q = some u) : upd H l o q = some u := by rw [upd_ne (ne_of_none e hl)]; exact e
theorem keep_at {H' : Hp} {l : Addr} {o : HO} (hk : ∀ b, b ≠ p → H' b = H b) (ne : l ≠ p) (h : H l = some o) : H' l = some o := (hk l ne).trans h
theorem keep_ext {H' : Hp} {l : Addr} {o : HO} (hk : ∀ b o, b ≠ p → H b = some o → H' b = some o) (ne : l ≠ p) (h : H l = some o) : H' l = some o := hk l o ne h
theorem keep_all {H' : Hp} {l : Addr} {o : HO} (hk : ∀ b o, H b = some o → H' b = some o) (h : H l = some o) : H' l = some o := hk l o h
end
end RD


namespace OWN
open PySem PySem.W PySem.Calls PyProof.Rows Builtin
open Sem (wp)
theorem mul_ref (a : Int) (t : Tok) (x C dx : Addr) :
    Meets (Builtin.«int.__mul__» ⟨[.int a t, .ref x], []⟩) (fun _ R s => s.heap.get? x = some (instObj C dx) ∧ R (.ok (.ret Value.notImplemented)) s) :=
  .of_wp fun prog w A R s h => by obtain ⟨hp, g, d, tk, os⟩ := s; obtain ⟨hl, h⟩ := h; unfold instObj at hl; wp_walk; exact ⟨_, rfl, h⟩
section
variable {prog : Program} {w : World} {A : Around} {E : Value → Shared → Prop} {s : Shared} {K : Frag} {x C L f f' : Addr} {h₀ : Heap} {m : Str → Option Value} {ox : Obj} {od : Option Obj}
theorem looks_called {M : Model} {h : Heap} {t : Value} {name : Str} {g : Addr} : Looks M h (calledByName t name (some (.ref g))) true := .now
theorem looks_num {M : Model} {h : Heap} {nm : String} (X : K.In h) (hs : findIn K (.ref C) (PySem.dunder nm) = some (some (.ref f))) (hr : findIn K (.ref C) (PySem.dunderR nm) = some (some (.ref f'))) : Looks M h (numberSlotInPython (.ref C) nm) true := by
  unfold numberSlotInPython
  refine (looks_findIn X hs).andThen (looks_called.andThen ((looks_findIn X hr).andThen (looks_called.andThen ?_)))
  exact .now
/-- x * i, x an own instance with __mul__ and __rmul__, i an int -/
theorem mul_left {i : Int} {t : Tok} {Q : Value → Shared → Prop} (F0 : PyProof.Rows.Fr h₀ L s.heap m) (X₀ : K.In h₀) (I : InstAt s.heap x ox C od) (hc : selfFirst K C = true)
    (hs : findIn K (.ref C) (PySem.dunder "mul") = some (some (.ref f))) (hr : findIn K (.ref C) (PySem.dunderR "mul") = some (some (.ref f'))) (hf : isFn K (.ref f) = true) (hsub : subIn K (.type "int") (.ref C) = some false)
    (h : wpAny (model prog w) A (call (.ref f) [.ref x, .int i t]) (PySem.W.CmpBack Q) E s) : wpAny (model prog w) A (binaryOp1 "mul" (.ref x) (.int i t)) (fun r s' => ∃ v, r = some v ∧ Q v s') E s := by
  have X := X₀.keeps F0.keep
  obtain ⟨cd, hcd, hm⟩ := any_some hc
  obtain ⟨rest, hm⟩ : ∃ rest, cd.mro = .ref C :: rest := by
    cases q : cd.mro with
    | nil => rw [q] at hm; cases hm
    | cons a r => rw [q] at hm; exact ⟨r, by rw [List.head?_cons] at hm; cases (beq_iff_eq.mp hm); rfl⟩
  unfold binaryOp1
  refine wpAny_bind (I.type.here (wpAny_bind (wpAny_typeOf (typeIs_int s i t) (wpAny_bind ((fills_K X hcd hm hs).here ?_)))))
  have hne : (Value.ref C == Value.type "int") = false := rfl
  simp only [hne, Bool.false_eq_true, if_false]
  refine wpAny_bind (wpAny_of_eq PySem.F.fills_int_mul ?_)
  simp only [Bool.and_self, if_true]
  refine wpAny_bind ((looks_subIn X hsub).here ?_)
  simp only [Bool.false_eq_true, if_false, pure_bind, Bool.not_false, Bool.and_self, if_true]
  refine wpAny_bind ((looks_num X hs hr).here ?_)
  simp only [if_true]
  refine wpAny_bind (wpAny_of_eq (show numberSlotInPython (.type "int") "mul" = pure false from rfl) ?_)
  simp only [Bool.not_false, if_true]
  refine wpAny_bind (wpAny_of_eq PySem.F.slot_int_rmul.lookup ?_)
  refine wpAny_bind (m := tryMethod (.ref x) _ _) ?_
  unfold tryMethod
  refine wpAny_bind (special_fn X I hs (beq_iff_eq.mp hf) (wpAny_mono h (fun v s' hv => ?_) fun _ _ e => e))
  cases v <;> first | exact hv.elim | exact wpAny_pure (wpAny_pure ⟨_, rfl, hv⟩)
/-- i * x -/
theorem mul_right {i : Int} {t : Tok} {dx : Addr} {Q : Value → Shared → Prop} (F0 : PyProof.Rows.Fr h₀ L s.heap m) (X₀ : K.In h₀) (I : InstAt s.heap x (instObj C dx) C od) (hc : selfFirst K C = true)
    (hs : findIn K (.ref C) (PySem.dunder "mul") = some (some (.ref f))) (hr : findIn K (.ref C) (PySem.dunderR "mul") = some (some (.ref f'))) (hf : isFn K (.ref f') = true) (hsub : subIn K (.ref C) (.type "int") = some false)
    (h : wpAny (model prog w) A (call (.ref f') [.ref x, .int i t]) (PySem.W.CmpBack Q) E s) : wpAny (model prog w) A (binaryOp1 "mul" (.int i t) (.ref x)) (fun r s' => ∃ v, r = some v ∧ Q v s') E s := by
  have X := X₀.keeps F0.keep
  obtain ⟨cd, hcd, hm⟩ := any_some hc
  obtain ⟨rest, hm⟩ : ∃ rest, cd.mro = .ref C :: rest := by
    cases q : cd.mro with
    | nil => rw [q] at hm; cases hm
    | cons a r => rw [q] at hm; exact ⟨r, by rw [List.head?_cons] at hm; cases (beq_iff_eq.mp hm); rfl⟩
  unfold binaryOp1
  refine wpAny_bind (wpAny_typeOf (typeIs_int s i t) (wpAny_bind (I.type.here (wpAny_bind (wpAny_of_eq PySem.F.fills_int_mul ?_)))))
  have hne : (Value.type "int" == Value.ref C) = false := rfl
  simp only [hne, Bool.false_eq_true, if_false]
  refine wpAny_bind ((fills_K X hcd hm hs).here ?_)
  simp only [Bool.and_self, if_true]
  refine wpAny_bind ((looks_subIn X hsub).here ?_)
  simp only [Bool.false_eq_true, if_false, pure_bind, Bool.not_false, Bool.and_self, if_true]
  refine wpAny_bind (wpAny_of_eq (show numberSlotInPython (.type "int") "mul" = pure false from rfl) ?_)
  simp only [Bool.false_eq_true, if_false, pure_bind]
  refine wpAny_bind (wpAny_tryMethod_declines (typeIs_int s i t) PySem.F.slot_int_mul (call_meets PySem.F.slot_int_mul (typeIs_int s i t) PySem.F.entry_int_mul (PySem.F.args_int_mul_2 _ _) (mul_ref i t x C dx) ⟨I.at_, rfl, ?_⟩))
  refine wpAny_bind (m := tryMethod (.ref x) _ _) ?_
  unfold tryMethod
  refine wpAny_bind (special_fn X I hr (beq_iff_eq.mp hf) (wpAny_mono h (fun v s' hv => ?_) fun _ _ e => e))
  cases v <;> first | exact hv.elim | exact wpAny_pure (wpAny_bind (wpAny_rule (wpAny_pure ⟨_, rfl, hv⟩)))
theorem binop_of {op : Operator} {a b : Value} {Q : Value → Shared → Prop} (hn : op.info.2 = "mul") (h : wpAny (model prog w) A (binaryOp1 "mul" a b) (fun r s' => ∃ v, r = some v ∧ Q v s') E s) : wpAny (model prog w) A (binaryOp op a b) Q E s := by
  unfold binaryOp
  refine wpAny_holding ?_
  rcases hi : op.info with ⟨sym, nm⟩
  rw [hi] at hn
  dsimp only at hn ⊢
  subst hn
  refine wpAny_bind (wpAny_mono h (fun r s' z => ?_) fun _ _ e => e)
  obtain ⟨v, rfl, q⟩ := z
  exact wpAny_pure q
theorem looks_inpl {M : Model} {h : Heap} {cd : ClassData} (X : K.In h) (hc : clsIn K C = some cd) (hm : cd.mro = [.ref C, .type "object"]) (hi : findIn K (.ref C) (PySem.dunderI "mul") = some none) : Looks M h (fillsInplaceSlot (.ref C) "mul" false) false := by
  intro A Q E s k q
  unfold fillsInplaceSlot
  refine wpAny_bind ((looks_clsIn X hc).andThen (f := fun cd => pure cd.mro) .now A _ E s k ?_)
  rw [hm, List.anyM_cons]
  refine wpAny_bind (wpAny_bind (looks_findIn X hi A _ E s k ?_))
  refine wpAny_pure ?_
  simp only [Bool.false_eq_true, if_false]
  rw [List.anyM_cons]
  refine wpAny_bind (wpAny_bind (wpAny_of_eq (show typeLookup (.type "object") (PySem.dunderI "mul") = pure none from ?_) ?_))
  · rw [typeLookup_type, builtinLookup_eq_fast, show fastLookup "object" (PySem.dunderI "mul") = some none from by decide +kernel]
  · refine wpAny_pure ?_
    simp only [Bool.false_eq_true, if_false]
    exact wpAny_pure q
theorem inpl_left {i : Int} {t : Tok} {Q : Value → Shared → Prop} {cd : ClassData} (F0 : PyProof.Rows.Fr h₀ L s.heap m) (X₀ : K.In h₀) (I : InstAt s.heap x ox C od) (hcd : clsIn K C = some cd) (hm : cd.mro = [.ref C, .type "object"]) (hi : findIn K (.ref C) (PySem.dunderI "mul") = some none)
    (h : wpAny (model prog w) A (binaryOp1 "mul" (.ref x) (.int i t)) (fun r s' => ∃ v, r = some v ∧ Q v s') E s) : wpAny (model prog w) A (inplaceOp .Mult (.ref x) (.int i t)) Q E s := by
  have X := X₀.keeps F0.keep
  unfold inplaceOp
  refine wpAny_holding (wpAny_bind (I.type.here ?_))
  refine wpAny_bind ((looks_inpl X hcd hm hi).here ?_)
  simp only [Bool.false_eq_true, if_false]
  refine wpAny_bind (wpAny_mono h (fun r s' z => ?_) fun _ _ e => e)
  obtain ⟨v, rfl, q⟩ := z
  exact wpAny_pure q
end
end OWN


namespace OWN
open PySem PySem.Spec PyProof.Rows L2
/-- a call that may raise, at the slots σ: what is wished of the exception is W's -/
def OpRS (X : Cx) (f : Value → Value → Sem Value) (r : L2.St → R2) : Prop :=
  ∀ (pins : List (Addr × Obj)) (s : Shared) (σ : L2.St) (H : Hp) (x y : V) (v u : Value) (Q : VK), Inv X pins σ H s → RelV x v → RelV y u → r σ x y H Q →
    wpAny (model X.prog X.w) X.A (f v u) (EP X pins σ Q) X.xe s
def tOpS (r : L2.St → R2) (ta tb : TE) : TE := fun σ H Q => ta σ H fun x H1 => tb σ H1 fun y H2 => r σ x y H2 Q
/-- x op y by the own class's def at g, x an instance of C -/
def rOwnS (C : Addr) (sp : Sp) (W : WX) : L2.St → R2 := fun σ x y H Q => ∃ a dx fs i, x = .ref a ∧ y = .int i ∧ H a = some (.ins C dx fs) ∧ sp [x, y] H Q (WE W σ)
def rOwnRS (C : Addr) (sp : Sp) (W : WX) : L2.St → R2 := fun σ x y H Q => ∃ a dx fs i, x = .int i ∧ y = .ref a ∧ H a = some (.ins C dx fs) ∧ sp [y, x] H Q (WE W σ)
def rOwnC (C : Addr) (sp : Sp) (E : XK) : R2 := fun x y H Q => ∃ a dx fs b dy gs, x = .ref a ∧ y = .ref b ∧ H a = some (.ins C dx fs) ∧ H b = some (.ins C dy gs) ∧ sp [x, y] H Q E
/-- what the text says of a class with __mul__ (at f) and __rmul__ (at f') -/
structure MulC (K : PySem.W.Frag) (C f f' : Addr) : Prop where
  sf : PySem.W.selfFirst K C = true
  mu : PySem.W.findIn K (.ref C) (PySem.dunder "mul") = some (some (.ref f))
  rm : PySem.W.findIn K (.ref C) (PySem.dunderR "mul") = some (some (.ref f'))
  fm : PySem.W.isFn K (.ref f) = true
  fr : PySem.W.isFn K (.ref f') = true
  s1 : PySem.W.subIn K (.type "int") (.ref C) = some false
  s2 : PySem.W.subIn K (.ref C) (.type "int") = some false
structure InpC (K : PySem.W.Frag) (C : Addr) : Prop where
  cd : ∃ cd, PySem.W.clsIn K C = some cd ∧ cd.mro = [.ref C, .type "object"]
  im : PySem.W.findIn K (.ref C) (PySem.dunderI "mul") = some none
section
variable {X : Cx} {a b : Expr} {ta tb : TE} {pos : Pos} {C f f' g : Addr} {n : Nat} {fd : FuncData} {ps : List Str} {sp : Sp} {W : WX} {E : XK} {CX : CXT}
theorem pe_opS {op : Operator} {r : L2.St → R2} (ho : OpRS X (binaryOp op) r) (ha : PE X a ta) (hb : PE X b tb) : PE X (.BinOp a op b pos) (tOpS r ta tb) := by
  refine ⟨fun pins s σ H Q I h => ?_⟩
  exact wpAny_BinOp (binT ha hb I h fun v u s2 x y H2 I2 rx ry q => ho pins s2 σ H2 x y v u Q I2 rx ry q)
theorem back {pins : List (Addr × Obj)} {σ : L2.St} {Q : VK} {v : Value} {s' : Shared} (z : EP X pins σ Q v s') : PySem.W.CmpBack (EP X pins σ Q) v s' := by
  obtain ⟨z', H', I', rz, qz⟩ := z
  exact SlX.cmpback rz ⟨z', H', I', rz, qz⟩
theorem ops_mulL (M : MulC X.K C f f') (F : FnOk X.prog X.w X.K X.mg X.base (L2.CX X.prog X.w) n f fd ps sp) (hr : Room n X.A) (hb : Binds X.K fd ps []) (tk : Takes X W) : OpRS X (binaryOp .Mult) (rOwnS C sp W) := by
  intro pins s σ H x y v u Q I rx ry h
  obtain ⟨a, dx, fs, i, rfl, rfl, ha, q⟩ := h
  cases (show v = Value.ref a from rx)
  obtain ⟨t, rfl⟩ := ry
  obtain ⟨mA, O, rr, _⟩ := ins_get I.hok ha
  obtain ⟨od, J, hl⟩ := O.look
  obtain ⟨m, hF⟩ := I.fr
  refine binop_of (by rfl) (mul_left hF I.ok.mod.kin J M.sf M.mu M.rm M.fm M.s1 ?_)
  exact wpAny_mono (run_fnS (us := [.ref a, .int i t]) (vs := [.ref a, .int i]) (E := WE W) F hr hb (passAt tk σ) I (.cons rfl (.cons ⟨t, rfl⟩ .nil)) q) (fun w s' z => back z) fun _ _ x => x
theorem ops_mulR (M : MulC X.K C f f') (F : FnOk X.prog X.w X.K X.mg X.base (L2.CX X.prog X.w) n f' fd ps sp) (hr : Room n X.A) (hb : Binds X.K fd ps []) (tk : Takes X W) : OpRS X (binaryOp .Mult) (rOwnRS C sp W) := by
  intro pins s σ H x y v u Q I rx ry h
  obtain ⟨a, dx, fs, i, rfl, rfl, ha, q⟩ := h
  cases (show u = Value.ref a from ry)
  obtain ⟨t, rfl⟩ := rx
  obtain ⟨mA, O, rr, _⟩ := ins_get I.hok ha
  obtain ⟨od, J, hl⟩ := O.look
  obtain ⟨m, hF⟩ := I.fr
  refine binop_of (by rfl) (mul_right hF I.ok.mod.kin J M.sf M.mu M.rm M.fr M.s2 ?_)
  exact wpAny_mono (run_fnS (us := [.ref a, .int i t]) (vs := [.ref a, .int i]) (E := WE W) F hr hb (passAt tk σ) I (.cons rfl (.cons ⟨t, rfl⟩ .nil)) q) (fun w s' z => back z) fun _ _ x => x
theorem ops_imul (M : MulC X.K C f f') (IC : InpC X.K C) (F : FnOk X.prog X.w X.K X.mg X.base (L2.CX X.prog X.w) n f fd ps sp) (hr : Room n X.A) (hb : Binds X.K fd ps []) (tk : Takes X W) : OpRS X (inplaceOp .Mult) (rOwnS C sp W) := by
  intro pins s σ H x y v u Q I rx ry h
  obtain ⟨a, dx, fs, i, rfl, rfl, ha, q⟩ := h
  cases (show v = Value.ref a from rx)
  obtain ⟨t, rfl⟩ := ry
  obtain ⟨mA, O, rr, _⟩ := ins_get I.hok ha
  obtain ⟨od, J, hl⟩ := O.look
  obtain ⟨m, hF⟩ := I.fr
  obtain ⟨cd, hcd, hm⟩ := IC.cd
  refine inpl_left hF I.ok.mod.kin J hcd hm IC.im (mul_left hF I.ok.mod.kin J M.sf M.mu M.rm M.fm M.s1 ?_)
  exact wpAny_mono (run_fnS (us := [.ref a, .int i t]) (vs := [.ref a, .int i]) (E := WE W) F hr hb (passAt tk σ) I (.cons rfl (.cons ⟨t, rfl⟩ .nil)) q) (fun w s' z => back z) fun _ _ x => x
/-- x op= e at a name, by an own class's def -/
def tAugO (i : Nat) (te : TE) (r : L2.St → R2) : TS := fun D σ H => ∃ x, σ[i]? = some (some x) ∧ te σ H fun y H1 => r σ x y H1 fun z H2 => D.nx (σ.set i (some z)) H2
theorem ps_augO {i : Nat} {x : Str} {e : Expr} {te : TE} {op : Operator} {r : L2.St → R2} {pos' : Pos} (hN : X.N.Nodup) (hi : X.N[i]? = some x) (hx : Loc X.env.scope x) (he : PE X e te) (ho : OpRS X (inplaceOp op) r)
    (hf : X.fn x = true ∨ X.env.scope.names.lookup x = some .local := by first | exact .inl rfl | exact .inr rfl | assumption) : PS X (.AugAssign (.Name x pos') op e pos) (tAugO i te r) := by
  refine ⟨fun pins s σ H D I h => ?_⟩
  obtain ⟨v, e1, h⟩ := h
  obtain ⟨m, hn, hl⟩ := I.loc
  have vis : Vis X.env.scope x := hx.elim Or.inl fun k => Or.inr (Or.inl k)
  obtain ⟨u, ru, l⟩ := hl i x v hi e1 vis
  refine wpAny_AugAssign_Name ?_
  have go : wpAny (model X.prog X.w) X.A (eval e X.env) (fun w s₂ => wpAny (model X.prog X.w) X.A (inplaceOp op u w) (fun q s₃ => wpAny (model X.prog X.w) X.A (storeName X.env x q) (fun _ => SP X pins D .next) X.xe s₃) X.xe s₂) X.xe s :=
    thn (he.run pins s σ H _ I h) fun w s1 ⟨y, H1, I1, r1, q1⟩ => thn (ho pins s1 σ H1 v y u w _ I1 ru r1 q1) fun z s2 ⟨zv, H2, I2, r2, q2⟩ => store_ok I2 hN hi hx r2 (fun s3 I3 => ⟨_, H2, I3, q2⟩) hf
  rcases l with ⟨hk, hm⟩ | ⟨hk, c, hc, hcell⟩
  · exact wpAny_loadName_local I.ok.kind hk hn hm go
  · rcases hk with hk | hk
    · exact wpAny_loadName_cell I.ok.kind hk hc hcell go
    · rcases hx with k | k <;> (rw [show X.env.scope.names.lookup x = some .free from hk] at k; cases k)
theorem op_ownC {op : CmpOp} (hop : ∀ a b, compareOp op a b = richCompare op a b) (hs : PySem.W.findIn X.K (.ref C) (cmpInfo op).2.1 = some (some (.ref g))) (hf : PySem.W.isFn X.K (.ref g) = true) (F : FnOk X.prog X.w X.K X.mg X.base CX n g fd ps sp)
    (hr : Room n X.A) (hb : Binds X.K fd ps []) (hx : Passes CX X E) : OpR X (compareOp op) (rOwnC C sp E) := by
  intro pins s σ H x y v u Q I rx ry h
  obtain ⟨a, dx, fs, b, dy, gs, rfl, rfl, ha, hb', q⟩ := h
  cases (show v = Value.ref a from rx)
  cases (show u = Value.ref b from ry)
  obtain ⟨mA, O, _⟩ := ins_get I.hok ha
  obtain ⟨od, J, _⟩ := O.look
  obtain ⟨mA', O', _⟩ := ins_get I.hok hb'
  obtain ⟨od', J', _⟩ := O'.look
  obtain ⟨m, hF⟩ := I.fr
  rw [hop]
  refine PySem.W.cmp_K (op := op) (tb := .ref C) hr.units0 hF I.ok.mod.kin J J'.type (by unfold PySem.W.notFirst; simp) hs hf ?_
  exact wpAny_mono (run_fn (us := [.ref a, .ref b]) (vs := [.ref a, .ref b]) F hr hb .nil hx I (.cons rfl (.cons rfl .nil)) (by rw [List.append_nil]; exact q)) (fun w s' z => back z) fun _ _ x => x
theorem r_topS {σ : L2.St} {H : Hp} {Q : VK} {r : L2.St → R2} (h : ta σ H fun x H1 => tb σ H1 fun y H2 => r σ x y H2 Q) : tOpS r ta tb σ H Q := h
theorem r_ownS {σ : L2.St} {H : Hp} {Q : VK} {x dx : Addr} {fs : List (Str × V)} {i : Int} (h : H x = some (.ins C dx fs)) (q : sp [.ref x, .int i] H Q (WE W σ)) : rOwnS C sp W σ (.ref x) (.int i) H Q := ⟨x, dx, fs, i, rfl, rfl, h, q⟩
theorem r_ownRS {σ : L2.St} {H : Hp} {Q : VK} {x dx : Addr} {fs : List (Str × V)} {i : Int} (h : H x = some (.ins C dx fs)) (q : sp [.ref x, .int i] H Q (WE W σ)) : rOwnRS C sp W σ (.int i) (.ref x) H Q := ⟨x, dx, fs, i, rfl, rfl, h, q⟩
theorem r_ownC {H : Hp} {Q : VK} {x dx y dy : Addr} {fs gs : List (Str × V)} (h : H x = some (.ins C dx fs)) (h' : H y = some (.ins C dy gs)) (q : sp [.ref x, .ref y] H Q E) : rOwnC C sp E (.ref x) (.ref y) H Q := ⟨x, dx, fs, y, dy, gs, rfl, rfl, h, h', q⟩
theorem r_augO {i : Nat} {σ : L2.St} {H : Hp} {D : Ends} {x : V} {r : L2.St → R2} (h : σ[i]? = some (some x)) (q : ta σ H fun y H1 => r σ x y H1 fun z H2 => D.nx (σ.set i (some z)) H2) : tAugO i ta r D σ H := ⟨x, h, q⟩
def rIsC (C : Addr) : List V → Hp → VK → Prop := fun xs H Q => ∃ a dx fs, xs = [.ref a, .ref C] ∧ H a = some (.ins C dx fs) ∧ Q (.bl true) H
theorem r_cbIsC {A : TA} {σ : L2.St} {H : Hp} {Q : VK} (h : A σ H fun vs H1 => rIsC C vs H1 Q) : tCB (fun xs H Q => ∃ a dx fs, xs = [V.ref a, V.ref C] ∧ H a = some (HO.ins C dx fs) ∧ Q (V.bl true) H) A σ H Q := h
theorem r_isC {H : Hp} {Q : VK} {x dx : Addr} {fs : List (Str × V)} (h : H x = some (.ins C dx fs)) (q : Q (.bl true) H) : rIsC C [.ref x, .ref C] H Q := ⟨x, dx, fs, rfl, h, q⟩
end
end OWN


namespace OWN
open PySem PySem.Spec PyProof.Rows L2
theorem tuple_mul1 (l : Addr) (items : Array Value) (n : Nat) (dd : Option Addr) (sl : Array (Option Value)) (x : Int) (u : Tok) (c0 : (decide (x < -(2 ^ 63)) || decide (x ≥ 2 ^ 63)) = false) (c1 : (items.isEmpty || x == 1) = true) :
    Meets (Builtin.«tuple.__mul__» ⟨[.ref l, .int x u], []⟩) (fun _ R s => s.heap.get? l = some { cls := .type "tuple", dict := dd, data := .seq items n, slots := sl } ∧ R (.ok (.ret (Value.ref l))) s) :=
  .of_wp fun prog w A R s h => by
    obtain ⟨hp, g, d, tk, os⟩ := s
    obtain ⟨hl, h⟩ := h
    have f1 := AutoSeq1.idx_int
    wp_walk using wpAny_loadPart' hl
    repeat (first
      | (refine wpAny_ite_false (decide_eq_false (by rw [c0]; exact Bool.false_ne_true)) ?_; wp_walk using wpAny_loadPart' hl)
      | (refine wpAny_ite_true (decide_eq_true (by rw [c1])) ?_; wp_walk using wpAny_loadPart' hl))
    exact ⟨_, rfl, h⟩
/-- t * k, k from 1 on -/
def rRepA (K : PySem.W.Frag) : R2 := fun x y H Q => ∃ l k xs, x = .ref l ∧ y = .int k ∧ SqT K H l xs ∧ xs ≠ [] ∧ 1 ≤ k ∧ k ≤ 1000 ∧ xs.length ≤ 1000 ∧ (k = 1 → Q (.ref l) H) ∧ (2 ≤ k → ∀ p, H p = none → Q (.ref p) (upd H p (.tup (List.replicate k.toNat xs).flatten)))
section
variable {X : Cx}
theorem op_repA : OpR X (binaryOp .Mult) (rRepA X.K) := by
  intro pins s σ H x y v u Q I rx ry h
  obtain ⟨l, k, xs, rfl, rfl, hT, hne, h1, h2, hz, q1, q2⟩ := h
  by_cases hk : k = 1
  · subst hk
    cases rx
    obtain ⟨t, rfl⟩ := ry
    obtain ⟨its, r, ⟨⟨cls, dd, data, sl⟩, ho, hc, n, hd⟩, hs⟩ := I.tuple hT
    simp only at hc hd
    subst hc hd
    refine wpAny_binaryOp_repeat_ref (T := "tuple") (U := "int") (by decide) ⟨_, ho, rfl⟩ (fun s' => typeIs_int s' 1 t) noFill_tuple_mul F.fills_int_mul F.slot_int_rmul repeat_tuple F.slot_int_index.lookup
      (call_meets F.slot_int_rmul (typeIs_int s 1 t) F.entry_int_rmul (F.args_int_rmul_2 _ _) (int_rmul_tuple 1 t l its.toArray n dd sl)
        ⟨ho, rfl, ⟨_, ho, rfl⟩, call_meets F.slot_tuple_mul ⟨_, ho, rfl⟩ F.entry_tuple_mul (F.args_tuple_mul_2 _ _) (tuple_mul1 l its.toArray n dd sl 1 t (by decide) (by simp)) ⟨ho, ?_⟩⟩)
    exact ⟨.ref l, H, I, rfl, q1 rfl⟩
  · exact op_repT pins s σ H _ _ v u Q I rx ry ⟨l, k, xs, rfl, rfl, hT, hne, by omega, h2, hz, q2 (by omega)⟩
end
/-- a class called by a local name: the i-th slot holds the class at C -/
def tMakeL (i : Nat) (C : Addr) (sp : Sp) (dvs : List V) (E : XK) (t : TA) : TE := fun σ H Q => σ[i]? = some (some (.ref C)) ∧ t σ H fun vs H1 => RD.rMake C sp dvs E vs H1 Q
section
variable {X : Cx} {CX : CXT} {k i : Nat} {C f : Addr} {fd : FuncData} {ps : List Str} {sp : Sp} {dvs : List V} {ds : List Value} {E : XK} {x : Str} {p pos : Pos} {e : Expr} {es : List Expr} {t : TA}
theorem pe_makeL (M : Mk X.K C f) (F : FnOk X.prog X.w X.K X.mg X.base CX k f fd ps sp) (hr : Room (k + 1) X.A) (hN : X.N[i]? = some x) (hv : Vis X.env.scope x) (hb : Binds X.K fd ps ds) (hd : Vals dvs ds) (hx : Passes CX X E) (ha : PA X (e :: es) t)
    (hdb : (x == ("__debug__" : Str)) = false := by decide) (hcd : (x == ("__classdict__" : Str)) = false := by decide)
    (he : starEach (e :: es) X.env = (false, eval e X.env) :: starEach es X.env := by rfl) (hpl : (backTo pos (starEach es X.env)).any (·.1) = false := by rfl) : PE X (.Call (.Name x p) (e :: es) [] pos) (tMakeL i C sp dvs E t) := by
  refine ⟨fun pins s σ H Q I h => ?_⟩
  obtain ⟨hs, ht⟩ := h
  refine wpAny_Call_Name_kw (thn ((pe_var (pos := p) hN hv hdb hcd).run pins s σ H (fun v H1 => v = .ref C ∧ H1 = H) I ⟨.ref C, hs, rfl, rfl⟩) fun u s1 ⟨v, H1, I1, r1, q1⟩ => ?_)
  obtain ⟨rfl, rfl⟩ := q1
  cases r1
  refine PySem.W.callWith_K (h₀ := X.base) I.ok.mod.kin M.kp (thn (ha.run pos pins s1 σ _ _ I1 ht) fun us s2 ⟨vs, H2, I2, r, q⟩ => ⟨I2.kIn, ?_⟩) he hpl
  exact run_make M F hr hb hd hx I2 r q
theorem r_makeL {A : TA} {σ : L2.St} {H : Hp} {Q : VK} (h : σ[i]? = some (some (.ref C))) (q : A σ H fun vs H1 => RD.rMake C sp dvs E vs H1 Q) : tMakeL i C sp dvs E A σ H Q := ⟨h, q⟩
theorem r_repA {K : PySem.W.Frag} {H : Hp} {Q : VK} {l : Addr} {z k : Int} (h : SqT K H l [V.int z]) (h1 : 1 ≤ k) (h2 : k ≤ 1000) (q : ∀ p H', (∀ b o, H b = some o → H' b = some o) → H' p = some (.tup ((List.replicate k.toNat z).map V.int)) → Q (.ref p) H') (hl : H l = some (.tup [V.int z])) : rRepA K (.ref l) (.int k) H Q := by
  refine ⟨l, k, _, rfl, rfl, h, by simp, h1, h2, by simp, fun e => ?_, fun _ p hp => ?_⟩
  · subst e; exact q l H (fun _ _ e => e) hl
  · refine q p _ (fun b o e => by rw [upd_ne (ne_of_none e hp)]; exact e) ?_
    rw [upd_same]
    have : ∀ n : Nat, (List.replicate n [V.int z]).flatten = (List.replicate n z).map V.int := fun n => by
      induction n with
      | zero => rfl
      | succ n ih => rw [List.replicate_succ, List.flatten_cons, ih, List.replicate_succ, List.map_cons]; rfl
    rw [this]
end
/-- o.m(e, ..) with what is raised wished for at the slots -/
def tMethW (C : Addr) (m : Str) (sp : Sp) (W : WX) (ta : TE) (t : TA) : TE := fun σ H Q => ta σ H fun x H1 => ∃ a dx fs, x = .ref a ∧ H1 a = some (.ins C dx fs) ∧ fs.lookup m = none ∧ t σ H1 fun vs H2 => sp (x :: vs) H2 Q (WE W σ)
/-- C.m(e, ..), m a classmethod, likewise -/
def tCMethW (C : Addr) (sp : Sp) (W : WX) (ta : TE) (t : TA) : TE := fun σ H Q => ta σ H fun x H1 => x = .ref C ∧ t σ H1 fun vs H2 => sp (.ref C :: vs) H2 Q (WE W σ)
section
variable {X : Cx} {k : Nat} {C f p g : Addr} {fd : FuncData} {ps : List Str} {sp : Sp} {W : WX} {m : Str} {pos apos : Pos} {o e : Expr} {es : List Expr} {ta : TE} {t : TA} {pl : Sem Bool} {mc : Value}
theorem pe_methW (he : PE X o ta) (c : Cls X.K C) (hm : Meth X.K C m f) (F : FnOk X.prog X.w X.K X.mg X.base (L2.CX X.prog X.w) k f fd ps sp) (hr : Room k X.A) (hb : Binds X.K fd ps []) (tk : Takes X W) (ha : PA X (e :: es) t)
    (hst : starEach (e :: es) X.env = (false, eval e X.env) :: starEach es X.env := by rfl) (hpl : (backTo pos (starEach es X.env)).any (·.1) = false := by rfl)
    (ht : eval (.Call (.Attribute o m apos) (e :: es) [] pos) X.env = (do
      let ov ← eval o X.env
      standAt apos.atName
      let (f, first) ← holding [ov] (getMethod ov m pl)
      callWith pos f first (backTo pos (starEach (e :: es) X.env)) (backToKw pos (keywordEach [] X.env))) := by rfl) :
    PE X (.Call (.Attribute o m apos) (e :: es) [] pos) (tMethW C m sp W ta t) := by
  refine ⟨fun pins s σ H Q I h => ?_⟩
  refine PySem.W.methodCall_KW (pl := pl) (thn (he.run pins s σ H _ I h) fun u s1 ⟨x, H1, I1, rx, a, dx, fs, ex, ea, l, q⟩ => ?_) ht
  subst ex
  obtain rfl : u = Value.ref a := rx
  refine getmeth_ok I1 ea c hm l ?_
  refine PySem.W.callWith_K (first := [.ref a]) (h₀ := X.base) I.ok.mod.kin hm.kp (thn (ha.run pos pins s1 σ H1 _ I1 q) fun us s2 ⟨vs, H2, I2, r, q2⟩ => ⟨I2.kIn, ?_⟩) hst hpl
  exact run_fnS (us := .ref a :: us) (vs := .ref a :: vs) (E := WE W) F hr hb (passAt tk σ) I2 (.cons rfl r) q2
theorem run_cmW {pins : List (Addr × Obj)} {σ : L2.St} {H : Hp} {s : Shared} {q : Addr} {Q : VK} {us : List Value} {vs : List V} (F : FnOk X.prog X.w X.K X.mg X.base (L2.CX X.prog X.w) k g fd ps sp) (hr : Room k X.A) (hb : Binds X.K fd ps []) (tk : Takes X W)
    (I : Inv X ((q, PySem.W.methodObj (.ref g) (.ref C)) :: pins) σ H s) (r : Vals vs us) (h : sp (.ref C :: vs) H Q (WE W σ)) : wpAny (model X.prog X.w) X.A (call (.ref q) us) (EP X pins σ Q) X.xe s := by
  have z : wpAny (model X.prog X.w) X.A (call (.ref q) us) (EP X ((q, PySem.W.methodObj (.ref g) (.ref C)) :: pins) σ Q) X.xe s := by
    refine wpAny_call (PySem.W.method_call (ClX.pin_at I) ?_)
    have r' : Vals (.ref C :: vs) (.ref C :: us) := .cons rfl r
    have hl : (Value.ref C :: us).length = ps.length := by rw [← r'.length]; exact F.len _ _ _ _ h
    have b := hb s (.ref C :: us) I.kIn (by rw [List.append_nil]; exact hl)
    rw [List.append_nil] at b
    refine codeAny_mono (F.run X.A X.stack s H ⟨.ref C :: us, []⟩ (.ref C :: us) (.ref C :: vs) Q (WE W σ) hr I.env0 b r' h) fun r s' hq => ?_
    cases r with
    | error e => exact passAt tk σ _ H s e s' I hq
    | ok fl =>
      cases fl with
      | ret u => exact I.after hq
      | next => exact False.elim hq
      | brk => exact False.elim hq
      | cont => exact False.elim hq
  exact thn z fun _ _ y => ClX.unpinE y
theorem pe_cmethW (he : PE X o ta) (r : ClX.CRead X.K C mc) (c : ClX.CMet X.K C mc m p g) (F : FnOk X.prog X.w X.K X.mg X.base (L2.CX X.prog X.w) k g fd ps sp) (hr : Room k X.A) (hb : Binds X.K fd ps []) (tk : Takes X W) (ha : PA X (e :: es) t)
    (hst : starEach (e :: es) X.env = (false, eval e X.env) :: starEach es X.env := by rfl) (hpl : (backTo pos (starEach es X.env)).any (·.1) = false := by rfl)
    (ht : eval (.Call (.Attribute o m apos) (e :: es) [] pos) X.env = (do
      let ov ← eval o X.env
      standAt apos.atName
      let (f, first) ← holding [ov] (getMethod ov m pl)
      callWith pos f first (backTo pos (starEach (e :: es) X.env)) (backToKw pos (keywordEach [] X.env))) := by rfl) :
    PE X (.Call (.Attribute o m apos) (e :: es) [] pos) (tCMethW C sp W ta t) := by
  refine ⟨fun pins s σ H Q I h => ?_⟩
  refine PySem.W.methodCall_KW (pl := pl) (thn (he.run pins s σ H _ I h) fun u s1 ⟨x, H1, I1, rx, ex, q⟩ => ?_) ht
  subst ex
  obtain rfl : u = Value.ref C := rx
  refine ClX.getmethcm_ok I1 r c fun s2 I2 => ?_
  refine ClX.callwith_cm I2 (ClX.base_none I1 (Nat.le_refl _)) c.fi (thn (ha.run pos _ s2 σ H1 _ I2 q) fun us s3 ⟨vs, H2, I3, rv, q2⟩ => ⟨⟨ClX.pin_at I3, I3.kIn⟩, ?_⟩) hst hpl
  exact run_cmW F hr hb tk I3 rv q2
def rMethW (C : Addr) (m : Str) (sp : Sp) (W : WX) (t : TA) (σ : L2.St) : V → Hp → VK → Prop := fun x H1 Q => ∃ a dx fs, x = .ref a ∧ H1 a = some (.ins C dx fs) ∧ fs.lookup m = none ∧ t σ H1 fun vs H2 => sp (x :: vs) H2 Q (WE W σ)
theorem r_tmethW {σ : L2.St} {H : Hp} {Q : VK} (h : ta σ H fun x H1 => rMethW C m sp W t σ x H1 Q) : tMethW C m sp W ta t σ H Q := h
theorem r_methW {σ : L2.St} {H : Hp} {Q : VK} {a dx : Addr} {fs : List (Str × V)} (h : H a = some (.ins C dx fs)) (l : fs.lookup m = none) (q : t σ H fun vs H2 => sp (.ref a :: vs) H2 Q (WE W σ)) : rMethW C m sp W t σ (.ref a) H Q := ⟨a, dx, fs, rfl, h, l, q⟩
def rCMethW (C : Addr) (sp : Sp) (W : WX) (t : TA) (σ : L2.St) : V → Hp → VK → Prop := fun x H1 Q => x = .ref C ∧ t σ H1 fun vs H2 => sp (.ref C :: vs) H2 Q (WE W σ)
theorem r_tcmethW {σ : L2.St} {H : Hp} {Q : VK} (h : ta σ H fun x H1 => rCMethW C sp W t σ x H1 Q) : tCMethW C sp W ta t σ H Q := h
theorem r_cmethW {σ : L2.St} {H : Hp} {Q : VK} (q : t σ H fun vs H2 => sp (.ref C :: vs) H2 Q (WE W σ)) : rCMethW C sp W t σ (.ref C) H Q := ⟨rfl, q⟩
end
end OWN


section
open PySem L2
/-! the steps of a reading, as rows of one key -/
local macro_rules | `(tactic| walk_at "set") => `(tactic| (repeat (first | exact RD.SetAt.zero | apply RD.SetAt.succ)))
local macro_rules | `(tactic| walk_at "ne") => `(tactic| first | assumption | exact Ne.symm (by assumption))
/-- what stands at an address -/
local macro_rules | `(tactic| walk_at "hp") => `(tactic| first
  | assumption
  | ((with_reducible show upd _ _ _ _ = some _); first | (with_reducible exact upd_same) | exact RD.upd_new (by assumption) (by walk_at "hp") | exact RD.upd_at (by walk_at "ne") (by walk_at "hp"))
  | exact RD.keep_all (by assumption) (by walk_at "hp")
  | exact RD.keep_at (by assumption) (by walk_at "ne") (by walk_at "hp")
  | exact RD.keep_ext (by assumption) (by walk_at "ne") (by walk_at "hp"))
local macro_rules | `(tactic| walk_at "sq") => `(tactic| first
  | assumption
  | exact SqL.of (by walk_at "hp")
  | exact SqT.of (by walk_at "hp"))
local macro_rules | `(tactic| walk_at "rd1") => `(tactic| first
  | (with_reducible refine RD.r_seq ?_)
  | (with_reducible refine RD.r_asg ?_)
  | (with_reducible refine RD.r_ifS ?_)
  | (with_reducible refine RD.r_ret ?_)
  | (with_reducible refine RD.r_retN ?_)
  | (with_reducible refine RD.r_drop ?_)
  | (with_reducible refine RD.r_next ?_)
  | ((with_reducible show gName _ _ _ _ _); refine RD.r_name (by walk_at "set") ?_)
  | (with_reducible refine RD.r_gsub ?_)
  | ((with_reducible show rSetL _ _ _ _ _); refine RD.r_setL (by walk_at "hp") (by exact rfl) (by walk_at "set") ?_)
  | ((with_reducible show tVar _ _ _ _); refine RD.r_var (by exact rfl) ?_)
  | (with_reducible refine RD.r_c ?_)
  | (with_reducible refine RD.r_op ?_)
  | (with_reducible refine RD.r_un ?_)
  | (with_reducible refine RD.r_rI0 ?_)
  | ((with_reducible show rI (fun _ j => 0 < j) _ _ _ _ _); refine RD.r_rI (by show (0 : Int) < _; omega) ?_)
  | ((with_reducible show rI CDiv _ _ _ _ _); refine RD.r_rI (by show (0 : Int) < _ ∧ _ < (1073741824 : Int); omega) ?_)
  | ((with_reducible show rI CPow _ _ _ _ _); refine RD.r_rI ⟨by decide, by decide, by decide⟩ ?_)
  | ((with_reducible show rI CMul _ _ _ _ _); refine RD.r_rI (by first | exact Or.inr ⟨by omega, by omega⟩ | exact Or.inl ⟨by omega, by omega⟩) ?_)
  | (with_reducible refine RD.r_rU ?_)
  | (with_reducible refine RD.r_eqI ?_)
  | (with_reducible refine RD.r_neI ?_)
  | (with_reducible refine RD.r_eqS ?_)
  | (with_reducible refine RD.r_neS ?_)
  | (with_reducible refine RD.r_test ?_)
  | (with_reducible refine RD.r_B ?_)
  | (with_reducible refine RD.r_bl ?_)
  | (with_reducible refine RD.r_and ?_)
  | (with_reducible refine RD.r_or ?_)
  | (with_reducible refine RD.r_not ?_)
  | (with_reducible refine RD.r_andV ?_)
  | (with_reducible refine RD.r_orV ?_)
  | (with_reducible refine RD.r_notV ?_)
  | (with_reducible refine RD.r_ifE ?_)
  | (with_reducible refine RD.r_chain ?_)
  | ((with_reducible show rIxL _ _ _ _ _); refine RD.r_ixL (by walk_at "sq") (by first | ((with_reducible refine RD.at_ints ?_ ?_) <;> first | omega | exact Int.emod_nonneg _ (by omega) | exact Int.emod_lt_of_pos _ (by omega)) | exact rfl) ?_)
  | ((with_reducible show rIxT _ _ _ _ _); refine RD.r_ixT (by walk_at "sq") (by first | ((with_reducible refine RD.at_ints ?_ ?_) <;> first | omega | exact Int.emod_nonneg _ (by omega) | exact Int.emod_lt_of_pos _ (by omega)) | exact rfl) ?_)
  | (with_reducible refine RD.r_tlstRg ?_)
  | ((with_reducible show RD.rLstRg _ _ _); refine RD.r_lstRg (by omega) (by omega) ?_; intro l hl)
  | ((with_reducible show rCat _ _ _ _); refine RD.r_cat (by walk_at "hp") (by walk_at "hp") (by first | decide | (simp [rgV_length]; done) | (simp [rgV_length]; omega)) ?_; intro l hl)
  | ((with_reducible show gTup _ _ _ _ _ _ _); refine RD.r_gtup (by walk_at "sq") (by exact rfl) ?_)
  | (with_reducible refine RD.r_gcons ?_)
  | (with_reducible refine RD.r_gnil ?_)
  | (with_reducible refine RD.r_forTe ?_)
  | (with_reducible refine RD.r_forLe ?_)
  | (with_reducible refine RD.r_tsl ?_)
  | (with_reducible refine RD.r_noPart ?_)
  | (with_reducible refine RD.r_tpart ?_)
  | (with_reducible refine RD.r_part ?_)
  | ((with_reducible show rSlA _ _ _ _ _ _); refine RD.r_slAny (by walk_at "hp") ?_; intro psl Hsl hesl hpsl)
  | (with_reducible refine RD.r_tcall ?_)
  | (with_reducible refine RD.r_tcallS ?_)
  | (with_reducible refine RD.r_tmake ?_)
  | (with_reducible refine RD.r_tbm ?_)
  | ((with_reducible show RD.rBM _ "list" _ _ _ _ _ _); refine RD.r_bmL (by walk_at "hp") ?_)
  | ((with_reducible show rEqD _ _ _ _ _); first | refine RD.r_eqTT (by walk_at "sq") (by walk_at "sq") ?_ | refine RD.r_eqLL (by walk_at "sq") (by walk_at "sq") ?_)
  | ((with_reducible show rNeD _ _ _ _ _); first | refine RD.r_neTT (by walk_at "sq") (by walk_at "sq") ?_ | refine RD.r_neLL (by walk_at "sq") (by walk_at "sq") ?_ | refine RD.r_neNil (by walk_at "sq") (by walk_at "sq") ?_)
  | (with_reducible refine RD.r_tfld ?_)
  | ((with_reducible show RD.rFld _ _ _ _ _); refine RD.r_fld (by walk_at "hp") (by assumption) (by assumption) (by walk_at "lk") ?_)
  | (with_reducible refine RD.r_sfld ?_)
  | ((with_reducible show RD.rSFld _ _ _ _ _ _); refine RD.r_sf (by walk_at "hp") (by assumption) (by assumption) (by walk_at "ln") (by walk_at "pf") ?_)
  | (with_reducible refine RD.r_tcval ?_)
  | ((with_reducible show RD.rCV _ _ _ _ _); refine RD.r_cv (by assumption) (by assumption) ?_)
  | (with_reducible refine RD.r_isiII ?_)
  | (with_reducible refine RD.r_isiIB ?_)
  | ((with_reducible show rIsi _ [V.ref _, V.ty "tuple"] _ _); refine RD.r_isiTT (by walk_at "hp") ?_)
  | (with_reducible refine OWN.r_topS ?_)
  | (with_reducible refine OWN.r_tmethW ?_)
  | ((with_reducible show OWN.rMethW _ _ _ _ _ _ _ _ _); refine OWN.r_methW (by walk_at "hp") (by walk_at "nolk") ?_)
  | (with_reducible refine OWN.r_tcmethW ?_)
  | (with_reducible refine OWN.r_cmethW ?_)
  | (with_reducible refine OWN.r_cbIsC ?_)
  | ((with_reducible show OWN.rIsC _ _ _ _); refine OWN.r_isC (by walk_at "hp") ?_)
  | (with_reducible refine RD.r_cbLen ?_)
  | (with_reducible refine RD.r_cbInt ?_)
  | (with_reducible refine RD.r_cbList ?_)
  | (with_reducible refine RD.r_cbTup ?_)
  | (with_reducible refine RD.r_cb ?_)
  | ((with_reducible show RD.rListOf _ _ _ _); refine RD.r_listOf (by first | exact Or.inl (by walk_at "sq") | exact Or.inr (by walk_at "sq")) ?_; intro l hl)
  | ((with_reducible show rAppend _ _ _ _); refine RD.r_app (by walk_at "hp") (by first | (simp; done) | (simp; omega)) ?_)
  | ((with_reducible show List.length _ ≤ sizeLine ∧ _); refine ⟨Nat.le_trans (m := 1000) (by first | decide | (simp; done) | (simp; omega)) (by decide), ?_⟩; intro l hl)
  | (with_reducible refine RD.r_nil ?_)
  | (with_reducible refine RD.r_cons ?_)
  | (with_reducible refine RD.r_tup ?_)
  | (with_reducible refine RD.r_lst ?_)
  | ((with_reducible show RD.rLen _ _ _ _); refine RD.r_len (by first | exact Or.inl (by walk_at "sq") | exact Or.inr (by walk_at "sq")) ?_)
  | (with_reducible refine RD.r_int1 ?_)
  | (with_reducible refine RD.r_intB ?_))
local macro_rules | `(tactic| walk_at "rd") => `(tactic| (repeat (walk_at "rd1")))
local macro_rules | `(tactic| walk_at "br") => `(tactic| first
  | (with_reducible refine iteT ?_)
  | (with_reducible refine iteF ?_)
  | (with_reducible refine RD.r_iteNF ?_)
  | (with_reducible refine RD.r_iteNT ?_)
  | ((with_reducible refine RD.r_yes ?_ ?_); (focus (first | assumption | omega | exact rfl | decide +kernel)))
  | ((with_reducible refine RD.r_no ?_ ?_); (focus (first | assumption | omega | exact rfl | decide +kernel)))
  | ((with_reducible refine RD.r_yesN ?_ ?_); (focus (first | assumption | omega | exact rfl | decide +kernel)))
  | ((with_reducible refine RD.r_noN ?_ ?_); (focus (first | assumption | omega | exact rfl | decide +kernel)))
  | (with_reducible refine RD.r_ite (fun hbr => ?_) (fun hbr => ?_))
  | (with_reducible refine RD.r_iteN (fun hbr => ?_) (fun hbr => ?_)))
local macro_rules | `(tactic| walk_at "go") => `(tactic| (repeat' (first | walk_at "rd1" | walk_at "br")))

namespace K2
open PySem L2
def top (i : Nat) : Stmt := PySem.Challenge.pw_twicewashed_k04_length_washed.main.body.getD i (.Pass ⟨0, 0, 0, 0⟩)
structure TxB (mg : Str → Option Value) : Prop where
  list : mg "list" = none
  int : mg "int" = none
  len : mg "len" = none
  tuple : mg "tuple" = none
  bool : mg "bool" = none
  isinstance : mg "isinstance" = none
  range : mg "range" = none
/-! ### the pool -/
abbrev sPool : Stmt := top 10
abbrev sTake : Stmt := top 11
/-- the pool at p: its cells (a list of ints ns at c), place i, great number g, turn t -/
structure PoolAt (H : Hp) (p c : Addr) (ns : List Int) (n : Nat) : Prop where
  ex : ∃ i g t : Int, H p = some (.lst [.ref c, .int i, .int g, .int t]) ∧ 0 ≤ i ∧ 0 ≤ g ∧ 0 ≤ t ∧ t ≤ n
  cl : H c = some (.lst (ns.map V.int))
  ne : c ≠ p
def spPool (K : PySem.W.Frag) : Sp := fun vs H Q _ => ∃ (a : Addr) (ns : List Int), vs = [.ref a] ∧ SqL K H a (ns.map V.int) ∧
  ∀ (p c : Addr) (H' : Hp), H p = none → H c = none → PoolAt H' p c ns 0 → (∀ b o, H b = some o → H' b = some o) → Q (.ref p) H'
def spTake : Sp := fun vs H Q _ => ∃ (p c : Addr) (ns : List Int) (n : Nat) (m : Int), vs = [.ref p, .int m] ∧ PoolAt H p c ns n ∧ n ≤ 1000000 ∧ 1 ≤ m ∧ m ≤ 1000000 ∧ ns.length ≤ 1000 ∧
  ∀ (v : Int) (H' : Hp), 0 ≤ v → v < m → PoolAt H' p c ns (n + 1) → (∀ b, b ≠ p → H' b = H b) → Q (.int v) H'
theorem PoolAt.new {H : Hp} {p c l : Addr} {ns : List Int} {n : Nat} {o : HO} (h : PoolAt H p c ns n) (hl : H l = none) : PoolAt (upd H l o) p c ns n := by
  obtain ⟨⟨i, g, t, hp, r⟩, hc, ne⟩ := h
  exact ⟨⟨i, g, t, by rw [upd_ne (ne_of_none hp hl)]; exact hp, r⟩, by rw [upd_ne (ne_of_none hc hl)]; exact hc, ne⟩
theorem PoolAt.old {H : Hp} {p c l : Addr} {ns : List Int} {n : Nat} {o : HO} (h : PoolAt H p c ns n) (h1 : p ≠ l) (h2 : c ≠ l) : PoolAt (upd H l o) p c ns n := by
  obtain ⟨⟨i, g, t, hp, r⟩, hc, ne⟩ := h
  exact ⟨⟨i, g, t, by rw [upd_ne h1]; exact hp, r⟩, by rw [upd_ne h2]; exact hc, ne⟩
theorem PoolAt.ext {H H' : Hp} {p c : Addr} {ns : List Int} {n : Nat} (h : PoolAt H p c ns n) (k : ∀ b o, H b = some o → H' b = some o) : PoolAt H' p c ns n := by
  obtain ⟨⟨i, g, t, hp, r⟩, hc, ne⟩ := h
  exact ⟨⟨i, g, t, k _ _ hp, r⟩, k _ _ hc, ne⟩
theorem PoolAt.mono {H : Hp} {p c : Addr} {ns : List Int} {n m : Nat} (h : PoolAt H p c ns n) (k : n ≤ m) : PoolAt H p c ns m := by
  obtain ⟨⟨i, g, t, hp, r1, r2, r3, r4⟩, hc, ne⟩ := h
  exact ⟨⟨i, g, t, hp, r1, r2, r3, by omega⟩, hc, ne⟩
theorem PoolAt.at {H : Hp} {p c : Addr} {ns : List Int} {n : Nat} (h : PoolAt H p c ns n) : ∃ o, H p = some o := let ⟨⟨_, _, _, hp, _⟩, _, _⟩ := h; ⟨_, hp⟩
theorem PoolAt.ne_new {H : Hp} {p c l : Addr} {ns : List Int} {n : Nat} (h : PoolAt H p c ns n) (hl : H l = none) : l ≠ p ∧ l ≠ c := by
  obtain ⟨⟨i, g, t, hp, r⟩, hc, ne⟩ := h
  exact ⟨(ne_of_none hp hl).symm, (ne_of_none hc hl).symm⟩
theorem take_rd {H : Hp} {p c : Addr} {ns : List Int} {n : Nat} {m : Int} {Q : VK} {E : XK} (h : PoolAt H p c ns n) (h1 : n ≤ 1000000) (h2 : 1 ≤ m) (h3 : m ≤ 1000000) (h4 : ns.length ≤ 1000)
    (k : ∀ (v : Int) (H' : Hp), 0 ≤ v → v < m → PoolAt H' p c ns (n + 1) → (∀ b, b ≠ p → H' b = H b) → Q (.int v) H') : spTake ([.ref p, .int m] ++ []) H Q E :=
  ⟨p, c, ns, n, m, rfl, h, h1, h2, h3, h4, k⟩
local macro_rules | `(tactic| walk_at "pool") => `(tactic| first | assumption | exact PoolAt.new (by walk_at "pool") (by assumption) | exact PoolAt.old (by walk_at "pool") (by walk_at "ne") (by walk_at "ne") | exact PoolAt.ext (by walk_at "pool") (by assumption))
local macro_rules | `(tactic| walk_at "take") => `(tactic| ((with_reducible show spTake _ _ _ _); refine take_rd (by walk_at "pool") (by omega) (by omega) (by omega) (by omega) ?_; intro v H' hv0 hv1 hP hk))
local macro_rules | `(tactic| walk_at "go") => `(tactic| (repeat' (first | walk_at "rd1" | walk_at "br" | walk_at "take")))

section
variable {P : Program} {w : World} {K : PySem.W.Frag} {mg : Str → Option Value} {base : Heap}
theorem scPool : FnScope ["_law_script"] ["_law_script"] (defScope sPool) := ⟨rfl, rfl, rfl, by decide +kernel, rfl, by decide +kernel, by decide +kernel⟩
theorem ok_pool {f : Addr} {fd : FuncData} (F : Fun K "_law_pool" "_law_pool" sPool f fd) (T : TxB mg) : FnOk P w K mg base CX0 1 f fd ["_law_script"] (spPool K) := by
  refine F.ok scPool (fun vs H Q E h => ?_) (fun cdv A outer s H vs Q E hr h => ?_)
  · obtain ⟨a, ns, rfl, _⟩ := h
    rfl
  · obtain ⟨a, ns, rfl, hS, k⟩ := h
    refine ⟨_, pss_one (ps_ret (pe_lst (pa_cons (pe_callTy call_list_of (by rfl) T.list (by decide +kernel) (pa_cons (pv 0) pa_nil)) (pa_cons pe_int (pa_cons pe_int (pa_cons pe_int pa_nil)))))), ?_⟩
    refine ⟨_, rfl, a, _, rfl, .inl hS, fun c hc => ⟨by show 4 ≤ sizeLine; decide, fun p hp => ?_⟩⟩
    have hpc : c ≠ p := fun z => by rw [z, upd_same] at hp; cases hp
    have hp' : H p = none := by rw [upd_ne hpc.symm] at hp; exact hp
    refine k p c _ hp' hc ⟨⟨0, 0, 0, upd_same, by omega, by omega, by omega, by omega⟩, by rw [upd_ne hpc, upd_same], hpc⟩ fun b o e => ?_
    rw [upd_ne (ne_of_none e hp'), upd_ne (ne_of_none e hc)]
    exact e
theorem take_end {H H' : Hp} {p c : Addr} {ns : List Int} {n : Nat} {i g t : Int} (hp : H' p = some (.lst [.ref c, .int i, .int g, .int t])) (hi : 0 ≤ i) (hg : 0 ≤ g) (h0 : 0 ≤ t) (ht : t ≤ n) (hcp : c ≠ p) (hc : H c = some (.lst (ns.map V.int))) (k : ∀ b, b ≠ p → H' b = H b) : PoolAt H' p c ns n := ⟨⟨i, g, t, hp, hi, hg, h0, ht⟩, (k c hcp).trans hc, hcp⟩
theorem at_cells {ns : List Int} {i : Nat} (h : i < ns.length) : atI (ns.map V.int) (i : Int) = some (V.int ns[i]) := atI_nat (by rw [List.getElem?_map, List.getElem?_eq_getElem h]; rfl)
theorem scTake : FnScope ["_law_pool_here", "_law_size", "_law_cells", "_law_turn", "_law_digit", "_law_cell"] ["_law_pool_here", "_law_size"] (defScope sTake) := ⟨rfl, rfl, rfl, by decide +kernel, rfl, by decide +kernel, by decide +kernel⟩
theorem ok_take {f : Addr} {fd : FuncData} (F : Fun K "_law_take" "_law_take" sTake f fd) (T : TxB mg) : FnOk P w K mg base CX0 1 f fd ["_law_pool_here", "_law_size"] spTake := by
  refine F.ok scTake (fun vs H Q E h => ?_) (fun cdv A outer s H vs Q E hr h => ?_)
  · obtain ⟨p, c, ns, n, m, rfl, _⟩ := h
    rfl
  · obtain ⟨p, c, ns, n, m, rfl, ⟨⟨i, g, t, hp, hi0, hg0, ht0, ht⟩, hc, hcp⟩, hn, hm1, hm2, hl, k⟩ := h
    have nd := scTake.nd
    refine ⟨_, (pss_cons (ps_set (i := 2) nd rfl (Or.inl rfl) (pe_ix ix_list (pv 0) pe_int (fun _ _ => rfl)))
(pss_cons (ps_set (i := 3) nd rfl (Or.inl rfl) (pe_ix ix_list (pv 0) pe_int (fun _ _ => rfl)))
(pss_cons (ps_asg (pe_op op_add (pv 3) pe_int) (pg_sub (pv 0) pe_int set_list))
(pss_cons (ps_if (PW.pt (pw_and (pt_cmpR op_eq (pe_ix ix_list (pv 0) pe_int (fun _ _ => rfl)) pe_int (nomark _)) (pw_and (pt_cmpR op_lt (pe_ix ix_list (pv 0) pe_int (fun _ _ => rfl)) (pe_callB call_len_seq (by rfl) T.len PySem.boot_len (pa_cons (pv 2) pa_nil)) (nomark _)) (pw_and1 (pt_cmpR op_ge (pe_ix ix_list (pv 2) (pe_ix ix_list (pv 0) pe_int (fun _ _ => rfl)) (fun _ _ => rfl)) (pe_op op_pow pe_int pe_int) (nomark _))))))
(pss_cons (ps_asg (pe_ix ix_list (pv 2) (pe_ix ix_list (pv 0) pe_int (fun _ _ => rfl)) (fun _ _ => rfl)) (pg_sub (pv 0) pe_int set_list))
(pss_one (ps_asg (pe_op op_add (pe_ix ix_list (pv 0) pe_int (fun _ _ => rfl)) pe_int) (pg_sub (pv 0) pe_int set_list))))
pss_nil)
(pss_cons (ps_if (pt_cmpR op_gt (pe_ix ix_list (pv 0) pe_int (fun _ _ => rfl)) pe_int (nomark _))
(pss_cons (ps_set (i := 4) nd rfl (Or.inl rfl) (pe_op op_mod (pe_callTy call_int1 (by rfl) T.int (by decide +kernel) (pa_cons (pe_ix ix_list (pv 0) pe_int (fun _ _ => rfl)) pa_nil)) (pv 1)))
(pss_cons (ps_asg (pe_op op_fdiv (pe_callTy call_int1 (by rfl) T.int (by decide +kernel) (pa_cons (pe_ix ix_list (pv 0) pe_int (fun _ _ => rfl)) pa_nil)) (pv 1)) (pg_sub (pv 0) pe_int set_list))
(pss_one (ps_ret (pv 4)))))
pss_nil)
(pss_cons (ps_if (pt_cmpR op_eq (pe_callB call_len_seq (by rfl) T.len PySem.boot_len (pa_cons (pv 2) pa_nil)) pe_int (nomark _))
(pss_one (ps_ret (pe_op op_mod (pe_callTy call_int1 (by rfl) T.int (by decide +kernel) (pa_cons (pv 3) pa_nil)) (pv 1))))
pss_nil)
(pss_cons (ps_set (i := 5) nd rfl (Or.inl rfl) (pe_ix ix_list (pv 2) (pe_op op_mod (pe_callTy call_int1 (by rfl) T.int (by decide +kernel) (pa_cons (pe_ix ix_list (pv 0) pe_int (fun _ _ => rfl)) pa_nil)) (pe_callB call_len_seq (by rfl) T.len PySem.boot_len (pa_cons (pv 2) pa_nil))) (fun _ _ => rfl)))
(pss_cons (ps_asg (pe_op op_add (pe_ix ix_list (pv 0) pe_int (fun _ _ => rfl)) pe_int) (pg_sub (pv 0) pe_int set_list))
(pss_one (ps_ret (pe_op op_mod (pe_op op_mod (pe_callTy call_int1 (by rfl) T.int (by decide +kernel) (pa_cons (pe_op op_add (pe_op op_mul (pe_op op_mul (pe_op op_add (pv 5) pe_int) (pe_op op_add (pv 3) pe_int)) pe_int) (pe_op op_mul (pv 3) (pv 3))) pa_nil)) pe_int) (pv 1)))))))))))), ?_⟩
    refine RD.r_start (σ' := [some (.ref p), some (.int m), none, none, none, none]) rfl ?_
    dsimp only [cxOf, Cx.nox, Cx.wish]
    walk_at "rd"
    have hlm : (ns.map V.int).length = ns.length := List.length_map _
    have fin : ∀ (v : Int) (i' g' t' : Int) (H' : Hp), 0 ≤ v → v < m → H' p = some (.lst [.ref c, .int i', .int g', .int t']) → 0 ≤ i' → 0 ≤ g' → 0 ≤ t' → t' ≤ (n : Int) + 1 → (∀ b, b ≠ p → H' b = H b) → Q (.int v) H' := fun v i' g' t' H' h1 h2 h3 ha hb hc' h4 h5 =>
      k v H' h1 h2 (take_end h3 ha hb hc' (by omega) hcp hc h5) h5
    have hd0 : ∀ x : Int, 0 ≤ x → 0 ≤ x / m := fun x hx => Int.ediv_nonneg hx (by omega)
    have hpw : (0 : Int) ≤ 10 ^ (18 : Int).toNat := by decide
    walk_at "go"
    all_goals (refine fin _ _ _ _ _ (Int.emod_nonneg _ (by omega)) (Int.emod_lt_of_pos _ (by omega)) upd_same ?_ ?_ ?_ ?_ (fun b hb => by simp only [upd_ne hb]) <;> first | omega | (refine hd0 _ ?_; omega))
end

/-! ### Length -/
abbrev sLenInit : Stmt := inClass (top 8) 2
def lenF (c : Int) (q : Addr) : List (Str × V) := [("count", V.int c), ("powers", V.ref q)]
theorem kcp : ¬ (("count" : Str) = "powers") := by decide +kernel
theorem lenF_count {c : Int} {q : Addr} : (lenF c q).lookup ("count" : Str) = some (.int c) := by
  unfold lenF; simp [List.lookup]
theorem lenF_powers {c : Int} {q : Addr} : (lenF c q).lookup ("powers" : Str) = some (.ref q) := by
  have h : (("powers" : Str) == "count") = false := by decide +kernel
  unfold lenF; simp [List.lookup, h]
theorem lenF_put0 {c : Int} : putF "count" (.int c) [] = [(("count" : Str), V.int c)] := rfl
theorem lenF_put1 {c : Int} {q : Addr} : putF "powers" (.ref q) [(("count" : Str), V.int c)] = lenF c q := by
  show (if ("count" : Str) = "powers" then _ else (("count" : Str), V.int c) :: [(("powers" : Str), V.ref q)]) = _
  rw [if_neg kcp]; rfl
def okLen (c : Int) (ps : List Int) : Prop := (1 ≤ c ∧ c ≤ 1000000) ∧ (1 ≤ ps.length ∧ ps.length ≤ 4) ∧ ∀ p ∈ ps, 0 ≤ p ∧ p ≤ 2
structure LenAt (H : Hp) (C x : Addr) (c : Int) (ps : List Int) : Prop where
  ex : ∃ dx q : Addr, H x = some (.ins C dx (lenF c q)) ∧ H q = some (.tup (ps.map V.int))
theorem LenAt.new {H : Hp} {C x l : Addr} {c : Int} {ps : List Int} {o : HO} (h : LenAt H C x c ps) (hl : H l = none) : LenAt (upd H l o) C x c ps := by
  obtain ⟨dx, q, h1, h2⟩ := h
  exact ⟨dx, q, by rw [upd_ne (ne_of_none h1 hl)]; exact h1, by rw [upd_ne (ne_of_none h2 hl)]; exact h2⟩
theorem LenAt.ext {H H' : Hp} {C x : Addr} {c : Int} {ps : List Int} (h : LenAt H C x c ps) (k : ∀ b o, H b = some o → H' b = some o) : LenAt H' C x c ps := by
  obtain ⟨dx, q, h1, h2⟩ := h
  exact ⟨dx, q, k _ _ h1, k _ _ h2⟩
theorem LenAt.ext' {H H' : Hp} {C x D : Addr} {c : Int} {ps : List Int} (h : LenAt H C x c ps) (hD : H D = none) (k : ∀ b o, b ≠ D → H b = some o → H' b = some o) : LenAt H' C x c ps :=
  h.ext fun b o e => k b o (ne_of_none e hD) e
local macro_rules | `(tactic| walk_at "lk") => `(tactic| first | exact lenF_count | exact lenF_powers)
local macro_rules | `(tactic| walk_at "ln") => `(tactic| first | exact (by decide : (0 : Nat) < 1000) | exact (by decide : (1 : Nat) < 1000))
local macro_rules | `(tactic| walk_at "pf") => `(tactic| first | exact lenF_put0 | exact lenF_put1)
local macro_rules | `(tactic| walk_at "len") => `(tactic| first | assumption | exact LenAt.new (by walk_at "len") (by assumption) | exact LenAt.ext (by walk_at "len") (by assumption))

def spLenInit (C B : Addr) : Sp := fun vs H Q E => ∃ (x dx l : Addr) (c : Int) (ps : List Int), vs = [.ref x, .int c, .ref l] ∧ H x = some (.ins C dx []) ∧ (H l = some (.lst (ps.map V.int)) ∨ H l = some (.tup (ps.map V.int))) ∧ ps.length ≤ 1000 ∧
  (okLen c ps → ∀ H', LenAt H' C x c ps → (∀ b o, b ≠ x → H b = some o → H' b = some o) → Q .non H') ∧
  (¬ okLen c ps → ∀ H', (∀ b o, H b = some o → H' b = some o) → E (.ref B) none H')
structure TxErr (K : PySem.W.Frag) (mg : Str → Option Value) (nm : Str) (B : Addr) : Prop where
  x : PySem.W.excIn K B [.type "ValueError", .type "Exception", .type "BaseException", .type "object"] "ValueError.__new__" = true
  g : mg nm = some (.ref B)
  k : PySem.W.keepIn K (.ref B) = true
  b : PySem.W.subIn K (.ref B) (.type "BaseException") = some true
  t : PySem.W.typeIn K (.ref B) = some (.type "type")
structure TxLen (K : PySem.W.Frag) (mg : Str → Option Value) (C : Addr) (mc um ud : Value) : Prop where
  cl : Cls K C
  nc : NoAttr K C "count"
  np : NoAttr K C "powers"
  g : mg "Length" = some (.ref C)
  rd : ClX.CRead K C mc
  mo : ClX.CVal K C mc "MOST" (.int 1000000) um
  de : ClX.CVal K C mc "DEEP" (.int 2) ud
  ms : ∃ t, mg "MOST_SHARES" = some (.int 4 t)
section
variable {P : Program} {w : World} {K : PySem.W.Frag} {mg : Str → Option Value} {base : Heap}
theorem scLenInit : FnScope ["self", "count", "powers", "power"] ["self", "count", "powers"] (defScope sLenInit) := ⟨rfl, rfl, rfl, by decide +kernel, rfl, by decide +kernel, by decide +kernel⟩
theorem ok_lenInit {f C B : Addr} {mc um ud : Value} {fd : FuncData} (F : Fun K "__init__" "Length.__init__" sLenInit f fd) (T : TxB mg) (TL : TxLen K mg C mc um ud) (TE : TxErr K mg "BadLength" B) :
    FnOk P w K mg base (L2.CX P w) 1 f fd ["self", "count", "powers"] (spLenInit C B) := by
  refine F.okX scLenInit (fun vs H Q E h => ?_) (fun cdv A outer s H vs Q E hr h => ?_)
  · obtain ⟨x, dx, l, c, ps, rfl, _⟩ := h
    rfl
  · obtain ⟨x, dx, l, c, ps, rfl, hx, hl, hz, k1, k2⟩ := h
    have nd := scLenInit.nd
    obtain ⟨tms, hms⟩ := TL.ms
    have hcl := TL.cl
    have hnc := TL.nc
    have hnp := TL.np
    have hrd := TL.rd
    have hmo := TL.mo
    have hde := TL.de
    refine ⟨_, (pss_cons (ps_set (i := 2) nd rfl (Or.inl rfl) (pe_callTy call_tuple_of (by rfl) T.tuple (by decide +kernel) (pa_cons (pv 2) pa_nil)))
(pss_cons (ps_if (pt_not (pt_chain op_le op_le pe_int (pv 1) (ClX.pe_cval (pe_glob (v := .ref C) rfl TL.g rfl))))
(pss_one (ps_raise rfl (takes_of rfl rfl rfl rfl) (pmk_own PySem.F.excBase_ValueError TE.x TE.g TE.k (raises_own TE.b TE.t) (by rfl))))
pss_nil)
(pss_cons (ps_if (pt_not (pt_chain op_le op_le pe_int (pe_callB call_len_seq (by rfl) T.len PySem.boot_len (pa_cons (pv 2) pa_nil)) (pe_glob (v := .int 4) rfl hms ⟨_, rfl⟩)))
(pss_one (ps_raise rfl (takes_of rfl rfl rfl rfl) (pmk_own PySem.F.excBase_ValueError TE.x TE.g TE.k (raises_own TE.b TE.t) (by rfl))))
pss_nil)
(pss_cons (ps_for (passes_of rfl) rfl (pi_tup (pv 2)) (pg_name (i := 3) nd rfl (Or.inl rfl))
(pss_one (ps_if (pt_not (pt_chain op_le op_le pe_int (pv 3) (ClX.pe_cval (pe_glob (v := .ref C) rfl TL.g rfl))))
(pss_one (ps_raise rfl (takes_of rfl rfl rfl rfl) (pmk_own PySem.F.excBase_ValueError TE.x TE.g TE.k (raises_own TE.b TE.t) (by rfl))))
pss_nil)))
(pss_cons (ps_fld (pv 0) (pv 1) rfl)
(pss_one (ps_fld (pv 0) (pv 2) rfl))))))), ?_⟩
    refine RD.r_start (σ' := [some (.ref x), some (.int c), some (.ref l), none]) rfl ?_
    dsimp only [cxOf, Cx.nox, Cx.wish]
    have noE : ∀ H1, ¬ okLen c ps → (∀ b o, H b = some o → H1 b = some o) → E (.ref B) none H1 := fun H1 h e => k2 h H1 e
    walk_at "go"
    refine RD.r_tupAny hl fun q H1 hext hq => ?_
    have hlm : (ps.map V.int).length = ps.length := List.length_map _
    walk_at "go"
    all_goals first | (with_reducible show RD.rForT _ _ _ _ _ _ _) | (refine noE _ (fun h => ?_) hext; unfold okLen at h; omega)
    refine RD.r_forTx (SqT.of hq) (fun i σ H' => H' = H1 ∧ (∃ v, σ = [some (.ref x), some (.int c), some (.ref q), v]) ∧ ∀ (j : Nat) (h : j < ps.length), j < i → 0 ≤ ps[j] ∧ ps[j] ≤ 2)
      ⟨rfl, ⟨_, rfl⟩, fun j _ h => absurd h (Nat.not_lt_zero _)⟩ (fun i σ H' _ h => by rw [h.1]; exact SqT.of hq) ?_ ?_
    · rintro i y σ H' hi ⟨rfl, ⟨v, rfl⟩, hg⟩
      obtain ⟨z, hz, rfl⟩ : ∃ z, ps[i]? = some z ∧ y = V.int z := by
        rw [List.getElem?_map] at hi
        cases e : ps[i]? with
        | none => rw [e] at hi; cases hi
        | some z => rw [e] at hi; exact ⟨z, rfl, (Option.some.inj hi).symm⟩
      obtain ⟨hil, hiz⟩ := List.getElem?_eq_some_iff.mp hz
      have bad : ¬ (0 ≤ z ∧ z ≤ 2) → E (.ref B) none H' := fun h => noE _ (fun o => h (hiz ▸ o.2.2 _ (List.getElem_mem hil))) hext
      walk_at "go"
      all_goals first
        | exact bad (by omega)
        | (refine ⟨rfl, ⟨_, rfl⟩, fun j h hj => ?_⟩
           by_cases e : j = i
           · subst e; rw [hiz]; omega
           · exact hg j h (by omega))
    · rintro σ H' ⟨rfl, ⟨v, rfl⟩, hg⟩
      have hall : ∀ p ∈ ps, 0 ≤ p ∧ p ≤ 2 := fun p hp => by
        obtain ⟨j, h, e⟩ := List.getElem_of_mem hp
        rw [← e]; exact hg j h (by rw [hlm]; exact h)
      have hqx : q ≠ x := ne_of hq (hext _ _ hx) (by intro z; cases z)
      have hx1 := hext _ _ hx
      walk_at "go"
      refine k1 ⟨by omega, by omega, hall⟩ _ ⟨dx, q, upd_same, ?_⟩ fun b o hb e => ?_
      · walk_at "hp"
      · rw [upd_ne hb, upd_ne hb]; exact hext _ _ e
end

/-! ### the law's own length, and what is whole -/
abbrev sWhole : Stmt := top 12
abbrev sLLen : Stmt := top 13
def spWhole : Sp := fun vs H Q _ => ∃ i : Int, vs = [.int i] ∧ Q (.bl true) H
def spLLen : Sp := fun vs H Q _ => ∃ (p c : Addr) (ns : List Int) (n : Nat) (m : Int), vs = [.ref p, .int m] ∧ PoolAt H p c ns n ∧ n ≤ 1000 ∧ ns.length ≤ 1000 ∧ 1 ≤ m ∧ m ≤ 4 ∧
  ∀ (q tp : Addr) (cnt : Int) (pw : List Int) (H' : Hp), H' q = some (.tup [.int cnt, .ref tp]) → H' tp = some (.tup (pw.map V.int)) → (pw.length : Int) = m → okLen cnt pw → PoolAt H' p c ns (n + 9) → (∀ b o, b ≠ p → H b = some o → H' b = some o) → H q = none → H tp = none → Q (.ref q) H'
section
variable {P : Program} {w : World} {K : PySem.W.Frag} {mg : Str → Option Value} {base : Heap}
theorem scWhole : FnScope ["_law_x"] ["_law_x"] (defScope sWhole) := ⟨rfl, rfl, rfl, by decide +kernel, rfl, by decide +kernel, by decide +kernel⟩
theorem ok_whole {f : Addr} {fd : FuncData} (F : Fun K "_law_whole" "_law_whole" sWhole f fd) (T : TxB mg) : FnOk P w K mg base CX0 1 f fd ["_law_x"] spWhole := by
  refine F.ok scWhole (fun vs H Q E h => ?_) (fun cdv A outer s H vs Q E hr h => ?_)
  · obtain ⟨i, rfl, _⟩ := h
    rfl
  · obtain ⟨i, rfl, k⟩ := h
    refine ⟨_, (pss_one (ps_ret (pe_and (pe_callB call_isi (by rfl) T.isinstance (by decide +kernel) (pa_cons (pv 0) (pa_cons (pe_bltn (v := .ty "int") (by rfl) T.int PyProof.Rows.boot_int rfl) pa_nil))) (pe_one (pe_not (pe_callB call_isi (by rfl) T.isinstance (by decide +kernel) (pa_cons (pv 0) (pa_cons (pe_bltn (v := .ty "bool") (by rfl) T.bool PyProof.Rows.boot_bool rfl) pa_nil)))))))), ?_⟩
    refine RD.r_start (σ' := [some (.int i)]) rfl ?_
    dsimp only [cxOf, Cx.nox, Cx.wish]
    walk_at "go"
    exact k
theorem scLLen : FnScope ["_law_pool_here", "_law_many", "_law_count", "_law_size", "_law_powers", "_law_k"] ["_law_pool_here", "_law_many"] (defScope sLLen) := ⟨rfl, rfl, rfl, by decide +kernel, rfl, by decide +kernel, by decide +kernel⟩
theorem ok_llen {f fT : Addr} {fd fdT : FuncData} (F : Fun K "_law_length" "_law_length" sLLen f fd) (T : TxB mg) (GT : FnOk P w K mg base CX0 1 fT fdT ["_law_pool_here", "_law_size"] spTake) (mgT : mg "_law_take" = some (.ref fT)) (kT : PySem.W.keepIn K (.ref fT) = true) (bT : Binds K fdT ["_law_pool_here", "_law_size"] []) :
    FnOk P w K mg base CX0 2 f fd ["_law_pool_here", "_law_many"] spLLen := by
  refine F.ok scLLen (fun vs H Q E h => ?_) (fun cdv A outer s H vs Q E hr h => ?_)
  · obtain ⟨p, c, ns, n, m, rfl, _⟩ := h
    rfl
  · obtain ⟨p, c, ns, n, m, rfl, hP, hn, hnl, hm1, hm2, k⟩ := h
    have nd := scLLen.nd
    refine ⟨_, (pss_cons (ps_set (i := 2) nd rfl (Or.inl rfl) (pe_op op_add pe_int (pe_call GT hr (by rfl) mgT kT bT .nil pass0 (pa_cons (pv 0) (pa_cons pe_int pa_nil)))))
(pss_cons (ps_set (i := 3) nd rfl (Or.inl rfl) (pe_call GT hr (by rfl) mgT kT bT .nil pass0 (pa_cons (pv 0) (pa_cons pe_int pa_nil))))
(C8.pss_cut (ps_if (pt_cmpR op_eq (pv 3) pe_int (nomark _))
(pss_one (ps_set (i := 2) nd rfl (Or.inl rfl) (pe_op op_add pe_int (pe_call GT hr (by rfl) mgT kT bT .nil pass0 (pa_cons (pv 0) (pa_cons pe_int pa_nil))))))
pss_nil)
(C8.pss_cut (ps_if (pt_cmpR op_eq (pv 3) pe_int (nomark _))
(pss_one (ps_set (i := 2) nd rfl (Or.inl rfl) (pe_op op_add (pe_op op_add pe_int (pe_op op_mul (pe_call GT hr (by rfl) mgT kT bT .nil pass0 (pa_cons (pv 0) (pa_cons pe_int pa_nil))) pe_int)) (pe_call GT hr (by rfl) mgT kT bT .nil pass0 (pa_cons (pv 0) (pa_cons pe_int pa_nil))))))
pss_nil)
(pss_cons (ps_set (i := 4) nd rfl (Or.inl rfl) (pe_lst pa_nil))
(pss_cons (ps_for PassesOwn.never rfl (pi_range1 (by rfl) T.range (pa_cons (pv 1) pa_nil)) (pg_name (i := 5) nd rfl (Or.inl rfl))
(pss_one (ps_expr (pe_bm PySem.F.plainAttrs_list PySem.F.slot_list_append PySem.F.type_list_append mt_append (pv 4) (pa_cons (pe_call GT hr (by rfl) mgT kT bT .nil pass0 (pa_cons (pv 0) (pa_cons pe_int pa_nil))) pa_nil)))))
(pss_one (ps_ret (pe_tup (pa_cons (pv 2) (pa_cons (pe_callTy call_tuple_of (by rfl) T.tuple (by decide +kernel) (pa_cons (pv 4) pa_nil)) pa_nil))))))))))), ?_⟩
    refine RD.r_start (σ' := [some (.ref p), some (.int m), none, none, none, none]) rfl ?_
    dsimp only [cxOf, Cx.nox, Cx.wish]
    walk_at "go"
    refine ⟨fun σ' H' => ∃ cnt size : Int, σ' = [some (.ref p), some (.int m), some (.int cnt), some (.int size), none, none] ∧ 1 ≤ cnt ∧ cnt ≤ 1000000 ∧ PoolAt H' p c ns (n + 3) ∧ (∀ b o, b ≠ p → H b = some o → H' b = some o), ?_, ?_⟩
    · walk_at "go"
      all_goals exact ⟨_, _, rfl, by omega, by omega, PoolAt.mono (by walk_at "pool") (by omega), fun b o hb e => by walk_at "hp"⟩
    rintro σ1 H1 ⟨cnt1, size, rfl, hc1, hc2, hP1, hk1⟩
    refine ⟨fun σ' H' => ∃ cnt : Int, σ' = [some (.ref p), some (.int m), some (.int cnt), some (.int size), none, none] ∧ 1 ≤ cnt ∧ cnt ≤ 1000000 ∧ PoolAt H' p c ns (n + 5) ∧ (∀ b o, b ≠ p → H1 b = some o → H' b = some o), ?_, ?_⟩
    · walk_at "go"
      all_goals exact ⟨_, rfl, by omega, by omega, PoolAt.mono (by walk_at "pool") (by omega), fun b o hb e => by walk_at "hp"⟩
    rintro σ2 H2 ⟨cnt, rfl, hd1, hd2, hP2, hk2⟩
    walk_at "go"
    rename_i l hl
    obtain ⟨hlp, hlc⟩ := hP2.ne_new hl
    refine ⟨_, rfl, _, rfl, by omega, by omega, for_range (lo := 0) (n := m.toNat) (fun i σ H' => ∃ (v : Option V) (pw : List Int), σ = [some (.ref p), some (.int m), some (.int cnt), some (.int size), some (.ref l), v] ∧ H' l = some (.lst (pw.map V.int)) ∧ pw.length = i ∧ (∀ x ∈ pw, 0 ≤ x ∧ x ≤ 2) ∧
      PoolAt H' p c ns (n + 5 + i) ∧ (∀ b o, b ≠ p → H2 b = some o → H' b = some o)) ⟨none, [], rfl, upd_same, rfl, fun _ h => (by cases h), PoolAt.new hP2 hl, fun b o hb e => by walk_at "hp"⟩ ?_ ?_⟩
    · rintro i σ H' hi ⟨v, pw, rfl, hl', hpl, hpw, hP', hk'⟩
      walk_at "go"
      rename_i z H3 hz0 hz1 hP3 hk3
      refine ⟨_, pw ++ [z], rfl, by rw [upd_same, RD.map_app], by simp [hpl], fun x hx => ?_, PoolAt.mono (PoolAt.old hP3 hlp.symm hlc.symm) (by omega), fun b o hb e => ?_⟩
      · rcases List.mem_append.mp hx with h | h
        · exact hpw x h
        · rw [List.mem_singleton.mp h]; omega
      · rw [upd_ne (ne_of_none e hl), hk3 b hb]; exact hk' b o hb e
    · rintro σ H' ⟨v, pw, rfl, hl', hpl, hpw, hP', hk'⟩
      walk_at "go"
      refine RD.r_tupOfL (SqL.of hl') fun tp htp => ?_
      walk_at "go"
      rename_i q hq
      have hq' : H' q = none := by
        rw [upd_ne (fun z => by rw [z, upd_same] at hq; cases hq)] at hq; exact hq
      have hbk : ∀ b o, b ≠ p → H b = some o → H' b = some o := fun b o hb e => hk' b o hb (hk2 b o hb (hk1 b o hb e))
      have hqt : tp ≠ q := fun z => by rw [z, upd_same] at hq; cases hq
      have fr : ∀ b, H' b = none → H b = none := fun b hb => by
        cases e : H b with
        | none => rfl
        | some o =>
          by_cases hbp : b = p
          · subst hbp
            obtain ⟨o', ho'⟩ := hP'.at
            rw [ho'] at hb; cases hb
          · rw [hbk b o hbp e] at hb; cases hb
      refine k q tp cnt pw _ upd_same (by rw [upd_ne hqt, upd_same]) (by omega) ⟨⟨hd1, hd2⟩, ⟨by omega, by omega⟩, hpw⟩ (PoolAt.mono (PoolAt.new (PoolAt.new hP' htp) hq) (by omega)) (fun b o hb e => ?_) (fr _ hq') (fr _ htp)
      rw [upd_ne (ne_of_none (hbk b o hb e) hq'), upd_ne (ne_of_none (hbk b o hb e) htp)]
      exact hbk b o hb e
end

local macro_rules | `(tactic| walk_at "rd1") => `(tactic| ((with_reducible show spWhole _ _ _ _); refine ⟨_, rfl, ?_⟩))

theorem mkLen {H : Hp} {C B l : Addr} {c : Int} {ps : List Int} {Q : VK} {E : XK} (hl : H l = some (.lst (ps.map V.int)) ∨ H l = some (.tup (ps.map V.int))) (hz : ps.length ≤ 1000)
    (k1 : okLen c ps → ∀ x H', LenAt H' C x c ps → (∀ b o, H b = some o → H' b = some o) → H x = none → Q (.ref x) H') (k2 : ¬ okLen c ps → ∀ H', (∀ b o, H b = some o → H' b = some o) → E (.ref B) none H') :
    RD.rMake C (spLenInit C B) [] E [.int c, .ref l] H Q := by
  intro x dx hx hdx hne
  have ex : ∀ b o, H b = some o → (upd (upd H dx (.own x)) x (.ins C dx [])) b = some o := fun b o e => by
    rw [upd_ne (ne_of_none e hx), upd_ne (ne_of_none e hdx)]; exact e
  exact ⟨x, dx, l, c, ps, rfl, upd_same, hl.imp (ex _ _) (ex _ _), hz, fun ok H' hL hk => ⟨rfl, k1 ok x H' hL (fun b o e => hk b o (ne_of_none e hx) (ex b o e)) hx⟩, fun no H' hk => k2 no H' fun b o e => hk b o (ex b o e)⟩
theorem exm_of {K : PySem.W.Frag} {S c : Addr} {b : Bool} (h1 : PySem.W.subIn K (.ref c) (.type "BaseException") = some true) (h2 : PySem.W.isClsIn K c = true) (h3 : PySem.W.typeIn K (.ref c) = some (.type "type")) (h4 : PySem.W.subIn K (.ref S) (.ref c) = some b) :
    PySem.W.exmOne K (.ref S) (.ref c) = some b := by
  unfold PySem.W.exmOne PySem.W.kitCls
  have h2' : (PySem.W.clsIn K c).isSome = true := h2
  simp [h1, h2', h3, h4]
theorem kit_self {K : PySem.W.Frag} {C : Addr} : PySem.W.kitOne K (.ref C) (.ref C) = some true := by
  unfold PySem.W.kitOne
  simp
theorem lenF_no {m : Str} {c : Int} {q : Addr} (h1 : (m == ("count" : Str)) = false) (h2 : (m == ("powers" : Str)) = false) : (lenF c q).lookup m = none := by
  unfold lenF; simp [List.lookup, h1, h2]

local macro_rules | `(tactic| walk_at "nolk") => `(tactic| exact lenF_no (by decide +kernel) (by decide +kernel))

/-! ### Length: washed, plain -/
abbrev sWashed : Stmt := inClass (top 8) 12
abbrev sPlain : Stmt := inClass (top 8) 3
def spWashed (C N O : Addr) : Sp := fun vs H Q E => ∃ (a : Addr) (j c : Int) (ps : List Int), vs = [.ref a, .int j] ∧ LenAt H C a c ps ∧ okLen c ps ∧
  (∀ (n : Nat) (h : n < ps.length), j = n → ps[n] ≠ 2 → ∀ b H', LenAt H' C b c (ps.set n (ps[n] + 1)) → (∀ b o, H b = some o → H' b = some o) → H b = none → Q (.ref b) H') ∧
  (∀ (n : Nat) (h : n < ps.length), j = n → ps[n] = 2 → ∀ H', (∀ b o, H b = some o → H' b = some o) → E (.ref O) none H') ∧
  ((j < 0 ∨ (ps.length : Int) ≤ j) → ∀ H', (∀ b o, H b = some o → H' b = some o) → E (.ref N) none H')
def spPlain (C B : Addr) : Sp := fun vs H Q E => ∃ (c m : Int), vs = [.ref C, .int c, .int m] ∧
  ((1 ≤ c ∧ c ≤ 1000000) ∧ 1 ≤ m ∧ m ≤ 4 → ∀ b H', LenAt H' C b c (List.replicate m.toNat 0) → (∀ b o, H b = some o → H' b = some o) → H b = none → Q (.ref b) H') ∧
  (¬ ((1 ≤ c ∧ c ≤ 1000000) ∧ 1 ≤ m ∧ m ≤ 4) → ∀ H', (∀ b o, H b = some o → H' b = some o) → E (.ref B) none H')
theorem set_split {ps : List Int} {n : Nat} (h : n < ps.length) (z : Int) : ps.take n ++ [z] ++ ps.drop (n + 1) = ps.set n z := by
  rw [List.set_eq_take_append_cons_drop, if_pos h, List.append_assoc]; rfl
theorem ok_set {c : Int} {ps : List Int} {n : Nat} {z : Int} (h : okLen c ps) (h0 : 0 ≤ z) (h1 : z ≤ 2) : okLen c (ps.set n z) := by
  refine ⟨h.1, by rw [List.length_set]; exact h.2.1, fun p hp => ?_⟩
  rcases List.mem_or_eq_of_mem_set hp with q | q
  · exact h.2.2 p q
  · rw [q]; exact ⟨h0, h1⟩
section
variable {P : Program} {w : World} {K : PySem.W.Frag} {mg : Str → Option Value} {base : Heap}
theorem scPlain : FnScope ["cls", "count", "shares"] ["cls", "count", "shares"] (defScope sPlain) := ⟨rfl, rfl, rfl, by decide +kernel, rfl, by decide +kernel, by decide +kernel⟩
theorem scWashed : FnScope ["self", "share", "before", "after"] ["self", "share"] (defScope sWashed) := ⟨rfl, rfl, rfl, by decide +kernel, rfl, by decide +kernel, by decide +kernel⟩
theorem ok_washed {f fI C B N O : Addr} {mc um ud : Value} {fd fdI : FuncData} (F : Fun K "washed" "Length.washed" sWashed f fd) (T : TxB mg) (TL : TxLen K mg C mc um ud) (TN : TxErr K mg "NoShare" N) (TO : TxErr K mg "TooOften" O) (MI : Mk K C fI)
    (GI : FnOk P w K mg base (L2.CX P w) 1 fI fdI ["self", "count", "powers"] (spLenInit C B)) (bI : Binds K fdI ["self", "count", "powers"] []) :
    FnOk P w K mg base (L2.CX P w) 3 f fd ["self", "share"] (spWashed C N O) := by
  refine F.okX scWashed (fun vs H Q E h => ?_) (fun cdv A outer s H vs Q E hr h => ?_)
  · obtain ⟨a, j, c, ps, rfl, _⟩ := h
    rfl
  · obtain ⟨a, j, c, ps, rfl, ⟨dx, q, ha, hq⟩, ok, k1, k2, k3⟩ := h
    have nd := scWashed.nd
    have hcl := TL.cl
    have hnc := TL.nc
    have hnp := TL.np
    have hrd := TL.rd
    have hde := TL.de
    have hlm : (ps.map V.int).length = ps.length := List.length_map _
    refine ⟨_, (pss_cons (ps_if (pt_not (pt_chain op_le op_lt pe_int (pv 1) (pe_callB call_len_seq (by rfl) T.len PySem.boot_len (pa_cons (pe_fld (pv 0) rfl) pa_nil))))
(pss_one (ps_raise rfl (takes_of rfl rfl rfl rfl) (pmk_own PySem.F.excBase_ValueError TN.x TN.g TN.k (raises_own TN.b TN.t) (by rfl))))
pss_nil)
(pss_cons (ps_if (pt_cmpR op_eq (pe_ix ix_tup (pe_fld (pv 0) rfl) (pv 1) (fun _ _ => rfl)) (ClX.pe_cval (pe_glob (v := .ref C) rfl TL.g rfl)) (nomark _))
(pss_one (ps_raise rfl (takes_of rfl rfl rfl rfl) (pmk_own PySem.F.excBase_ValueError TO.x TO.g TO.k (raises_own TO.b TO.t) (by rfl))))
pss_nil)
(pss_cons (ps_set (i := 2) nd rfl (Or.inl rfl) (pe_slice sl_tupA (pe_fld (pv 0) rfl) po_none (po_some (pv 1))))
(pss_cons (ps_set (i := 3) nd rfl (Or.inl rfl) (pe_slice sl_tupA (pe_fld (pv 0) rfl) (po_some (pe_op op_add (pv 1) pe_int)) po_none))
(pss_one (ps_ret (pe_make MI GI hr rfl TL.g bI .nil (passes_call (takes_of rfl rfl rfl rfl) (fun _ _ _ _ h => h)) (pa_cons (pe_fld (pv 0) rfl) (pa_cons (pe_op op_catA (pe_op op_catA (pv 2) (pe_tup (pa_cons (pe_op op_add (pe_ix ix_tup (pe_fld (pv 0) rfl) (pv 1) (fun _ _ => rfl)) pe_int) pa_nil))) (pv 3)) pa_nil))))))))), ?_⟩
    refine RD.r_start (σ' := [some (.ref a), some (.int j), none, none]) rfl ?_
    dsimp only [cxOf, Cx.nox, Cx.wish]
    by_cases hj : 0 ≤ j ∧ j < ps.length
    · obtain ⟨n, hn, rfl⟩ : ∃ n : Nat, n < ps.length ∧ j = n := ⟨j.toNat, by omega, by omega⟩
      have hgn : ps.getD ((n : Int)).toNat 0 = ps[n] := by
        rw [Int.toNat_natCast, List.getD_eq_getElem?_getD, List.getElem?_eq_getElem hn]; rfl
      by_cases h2 : ps[n] = 2
      · have h2' : ps.getD ((n : Int)).toNat 0 = 2 := hgn.trans h2
        walk_at "go"
        all_goals exact k2 n hn rfl h2 _ fun _ _ e => e
      · have h2' : ¬ ps.getD ((n : Int)).toNat 0 = 2 := by rw [hgn]; exact h2
        walk_at "go"
        rename_i p1 H1 he1 hp1 p2 H2 he2 hp2 l hl
        rw [RD.cut_take (by omega)] at hp1
        rw [show ((n : Int) + 1) = ((n + 1 : Nat) : Int) from rfl, RD.cut_drop (by omega)] at hp2
        rw [hgn]
        have hin := ok.2.2 _ (List.getElem_mem hn)
        have hp1l : (upd H2 l (.tup [V.int (ps[n] + 1)])) p1 = some (.tup ((ps.take n).map V.int)) := RD.upd_new hl (he2 _ _ hp1)
        have hp2l : (upd H2 l (.tup [V.int (ps[n] + 1)])) p2 = some (.tup ((ps.drop (n + 1)).map V.int)) := RD.upd_new hl hp2
        have hel : ∀ b o, H b = some o → (upd H2 l (.tup [V.int (ps[n] + 1)])) b = some o := fun b o e => RD.upd_new hl (he2 _ _ (he1 _ _ e))
        have hl2 := ok.2.1
        refine RD.r_catI (ms := [ps[n] + 1]) hp1l upd_same (by rw [List.length_take, List.length_singleton]; omega) fun p3 H3 he3 hp3 => ?_
        walk_at "go"
        refine RD.r_catI hp3 (he3 _ _ hp2l) (by rw [List.length_append, List.length_take, List.length_singleton, List.length_drop]; omega) fun p4 H4 he4 hp4 => ?_
        rw [set_split hn] at hp4
        walk_at "go"
        have hall : ∀ b o, H b = some o → H4 b = some o := fun b o e => he4 _ _ (he3 _ _ (hel _ _ e))
        have fr : ∀ b, H4 b = none → H b = none := fun b hb => by
          cases e : H b with
          | none => rfl
          | some o => rw [hall b o e] at hb; cases hb
        refine mkLen (.inr hp4) (by rw [List.length_set]; omega) (fun _ x H5 hL he5 hx => k1 n hn rfl h2 x H5 hL (fun b o e => he5 _ _ (hall _ _ e)) (fr x hx)) (fun no => absurd (ok_set ok (by omega) (by omega)) no)
    · walk_at "go"
      all_goals exact k3 (by omega) _ fun _ _ e => e
theorem ok_plain {f fI C B : Addr} {mc um ud : Value} {fd fdI : FuncData} (F : Fun K "plain" "Length.plain" sPlain f fd) (T : TxB mg) (TL : TxLen K mg C mc um ud) (TE : TxErr K mg "BadLength" B) (MI : Mk K C fI)
    (GI : FnOk P w K mg base (L2.CX P w) 1 fI fdI ["self", "count", "powers"] (spLenInit C B)) (bI : Binds K fdI ["self", "count", "powers"] []) :
    FnOk P w K mg base (L2.CX P w) 3 f fd ["cls", "count", "shares"] (spPlain C B) := by
  refine F.okX scPlain (fun vs H Q E h => ?_) (fun cdv A outer s H vs Q E hr h => ?_)
  · obtain ⟨c, m, rfl, _⟩ := h
    rfl
  · obtain ⟨c, m, rfl, k1, k2⟩ := h
    obtain ⟨tms, hms⟩ := TL.ms
    refine ⟨_, (pss_cons (ps_if (pt_not (pt_chain op_le op_le pe_int (pv 2) (pe_glob (v := .int 4) rfl hms ⟨_, rfl⟩)))
(pss_one (ps_raise rfl (takes_of rfl rfl rfl rfl) (pmk_own PySem.F.excBase_ValueError TE.x TE.g TE.k (raises_own TE.b TE.t) (by rfl))))
pss_nil)
(pss_one (ps_ret (OWN.pe_makeL (i := 0) MI GI hr rfl (Or.inl rfl) bI .nil (passes_call (takes_of rfl rfl rfl rfl) (fun _ _ _ _ h => h)) (pa_cons (pv 1) (pa_cons (pe_op OWN.op_repA (pe_tup (pa_cons pe_int pa_nil)) (pv 2)) pa_nil)))))), ?_⟩
    refine RD.r_start (σ' := [some (.ref C), some (.int c), some (.int m)]) rfl ?_
    dsimp only [cxOf, Cx.nox, Cx.wish]
    walk_at "go"
    all_goals first
      | exact k2 (by omega) _ fun _ _ e => e
      | refine OWN.r_makeL rfl ?_
    walk_at "go"
    rename_i l hl
    refine OWN.r_repA (SqT.of upd_same) (by omega) (by omega) (fun p H1 he1 hp1 => ?_) upd_same
    walk_at "go"
    have hall : ∀ b o, H b = some o → H1 b = some o := fun b o e => he1 _ _ (RD.upd_new hl e)
    have fr : ∀ b, H1 b = none → H b = none := fun b hb => by
      cases e : H b with
      | none => rfl
      | some o => rw [hall b o e] at hb; cases hb
    have okm : okLen c (List.replicate m.toNat 0) ↔ ((1 ≤ c ∧ c ≤ 1000000) ∧ 1 ≤ m ∧ m ≤ 4) := by
      constructor
      · intro o
        have := o.2.1
        rw [List.length_replicate] at this
        exact ⟨o.1, by omega, by omega⟩
      · intro o
        refine ⟨o.1, by rw [List.length_replicate]; omega, fun p hp => ?_⟩
        rw [(List.mem_replicate.mp hp).2]; omega
    exact mkLen (.inr hp1) (by rw [List.length_replicate]; omega) (fun o x H5 hL he5 hx => k1 (okm.mp o) x H5 hL (fun b o e => he5 _ _ (hall _ _ e)) (fr x hx)) (fun no H5 he5 => k2 (fun o => no (okm.mpr o)) H5 fun b o e => he5 _ _ (hall _ _ e))
end

/-! ### the law k04 -/
abbrev sLWashed : Stmt := top 14
abbrev sLPlain : Stmt := top 15
abbrev sLIs : Stmt := top 16
abbrev sLaw : Stmt := top 17
def spLWashed (C : Addr) : Sp := fun vs H Q _ => ∃ (a : Addr) (j c : Int) (ps : List Int), vs = [.ref a, .int j] ∧ LenAt H C a c ps ∧ okLen c ps ∧
  (∀ (n : Nat) (h : n < ps.length), j = n → ps[n] ≠ 2 → ∀ t b H', H' t = some (.tup [.str "made", .ref b]) → LenAt H' C b c (ps.set n (ps[n] + 1)) → (∀ b o, H b = some o → H' b = some o) → Q (.ref t) H') ∧
  (∀ (n : Nat) (h : n < ps.length), j = n → ps[n] = 2 → ∀ t H', H' t = some (.tup [.str "TooOften", .non]) → (∀ b o, H b = some o → H' b = some o) → Q (.ref t) H') ∧
  ((j < 0 ∨ (ps.length : Int) ≤ j) → ∀ t H', H' t = some (.tup [.str "NoShare", .non]) → (∀ b o, H b = some o → H' b = some o) → Q (.ref t) H')
def spLPlain (C : Addr) : Sp := fun vs H Q _ => ∃ (c m : Int), vs = [.int c, .int m] ∧
  ((1 ≤ c ∧ c ≤ 1000000) ∧ 1 ≤ m ∧ m ≤ 4 → ∀ t b H', H' t = some (.tup [.str "made", .ref b]) → LenAt H' C b c (List.replicate m.toNat 0) → (∀ b o, H b = some o → H' b = some o) → Q (.ref t) H') ∧
  (¬ ((1 ≤ c ∧ c ≤ 1000000) ∧ 1 ≤ m ∧ m ≤ 4) → ∀ t H', H' t = some (.tup [.str "BadLength", .non]) → (∀ b o, H b = some o → H' b = some o) → Q (.ref t) H')
def spLIs (C : Addr) : Sp := fun vs H Q _ => ∃ (a q : Addr) (c : Int) (ps : List Int), vs = [.ref a, .int c, .ref q] ∧ LenAt H C a c ps ∧ H q = some (.tup (ps.map V.int)) ∧ Q (.bl true) H
section
variable {P : Program} {w : World} {K : PySem.W.Frag} {mg : Str → Option Value} {base : Heap}
theorem scLWashed : FnScope ["_law_a", "_law_share"] ["_law_a", "_law_share"] (defScope sLWashed) := ⟨rfl, rfl, rfl, by decide +kernel, rfl, by decide +kernel, by decide +kernel⟩
theorem ok_lwashed {f fS C N O : Addr} {mc um ud : Value} {fd fdS : FuncData} (F : Fun K "_law_washed" "_law_washed" sLWashed f fd) (TL : TxLen K mg C mc um ud) (TN : TxErr K mg "NoShare" N) (TO : TxErr K mg "TooOften" O)
    (eNN : PySem.W.exmOne K (.ref N) (.ref N) = some true) (eON : PySem.W.exmOne K (.ref O) (.ref N) = some false) (eOO : PySem.W.exmOne K (.ref O) (.ref O) = some true)
    (hmS : Meth K C "washed" fS) (GS : FnOk P w K mg base (L2.CX P w) 3 fS fdS ["self", "share"] (spWashed C N O)) (bS : Binds K fdS ["self", "share"] []) :
    FnOk P w K mg base CX0 4 f fd ["_law_a", "_law_share"] (spLWashed C) := by
  refine F.ok scLWashed (fun vs H Q E h => ?_) (fun cdv A outer s H vs Q E hr h => ?_)
  · obtain ⟨a, j, c, ps, rfl, _⟩ := h
    rfl
  · obtain ⟨a, j, c, ps, rfl, hL, ok, k1, k2, k3⟩ := h
    obtain ⟨dx, q, ha, hq⟩ := hL.ex
    refine ⟨_, (pss_one (ps_try_many rfl rfl takes_none5 (fun W pn xe tk _ => (pss_one (ps_ret (pe_tup (pa_cons pe_str (pa_cons (OWN.pe_methW (pv 0) TL.cl hmS GS hr bS tk (pa_cons (pv 1) pa_nil)) pa_nil)))))) (.cons ⟨rfl, by decide, .inl TN.g⟩ (fun a oe cls d pn _ _ => (pss_one (ps_ret (pe_tup (pa_cons pe_str (pa_cons pe_non pa_nil)))))) (.cons ⟨rfl, by decide, .inl TO.g⟩ (fun a oe cls d pn _ _ => (pss_one (ps_ret (pe_tup (pa_cons pe_str (pa_cons pe_non pa_nil)))))) .nil)))), ?_⟩
    refine RD.r_start (σ' := [some (.ref a), some (.int j)]) rfl ?_
    dsimp only [cxOf, Cx.nox, Cx.wish]
    walk_at "go"
    refine ⟨a, j, c, ps, rfl, hL, ok, fun n h e1 e2 b H' hL' he hb => ?_, fun n h e1 e2 H' he => ⟨false, eON, (fun q => nomatch q), fun _ => ⟨true, eOO, fun _ a0 ha0 => ?_, (fun q => nomatch q)⟩⟩, fun e1 H' he => ⟨true, eNN, fun _ a0 ha0 => ?_, (fun q => nomatch q)⟩⟩
    all_goals walk_at "go"
    all_goals rename_i l hl
    all_goals first
      | exact k1 n h e1 e2 l b _ upd_same (hL'.new hl) (fun x o e => RD.upd_new hl (he x o e))
      | exact k2 n h e1 e2 l _ upd_same (fun x o e => RD.upd_new hl (he x o e))
      | exact k3 e1 l _ upd_same (fun x o e => RD.upd_new hl (he x o e))
theorem scLPlain : FnScope ["_law_count", "_law_many"] ["_law_count", "_law_many"] (defScope sLPlain) := ⟨rfl, rfl, rfl, by decide +kernel, rfl, by decide +kernel, by decide +kernel⟩
theorem ok_lplain {f fL C B pL : Addr} {mc um ud : Value} {fd fdL : FuncData} (F : Fun K "_law_plain" "_law_plain" sLPlain f fd) (TL : TxLen K mg C mc um ud) (TE : TxErr K mg "BadLength" B) (eBB : PySem.W.exmOne K (.ref B) (.ref B) = some true)
    (hmL : ClX.CMet K C mc "plain" pL fL) (GL : FnOk P w K mg base (L2.CX P w) 3 fL fdL ["cls", "count", "shares"] (spPlain C B)) (bL : Binds K fdL ["cls", "count", "shares"] []) :
    FnOk P w K mg base CX0 4 f fd ["_law_count", "_law_many"] (spLPlain C) := by
  refine F.ok scLPlain (fun vs H Q E h => ?_) (fun cdv A outer s H vs Q E hr h => ?_)
  · obtain ⟨c, m, rfl, _⟩ := h
    rfl
  · obtain ⟨c, m, rfl, k1, k2⟩ := h
    refine ⟨_, (pss_one (ps_try_only rfl rfl ⟨rfl, by decide, .inl TE.g⟩ takes0 (fun W pn xe tk _ => (pss_one (ps_ret (pe_tup (pa_cons pe_str (pa_cons (OWN.pe_cmethW (pe_glob (v := .ref C) rfl TL.g rfl) TL.rd hmL GL hr bL tk (pa_cons (pv 0) (pa_cons (pv 1) pa_nil))) pa_nil)))))) (fun a oe cls d pn _ _ => (pss_one (ps_ret (pe_tup (pa_cons pe_str (pa_cons pe_non pa_nil)))))))), ?_⟩
    refine RD.r_start (σ' := [some (.int c), some (.int m)]) rfl ?_
    dsimp only [cxOf, Cx.nox, Cx.wish]
    walk_at "go"
    refine ⟨c, m, rfl, fun o b H' hL' he hb => ?_, fun o H' he => ⟨true, eBB, fun _ a0 ha0 => ?_, (fun q => nomatch q)⟩⟩
    all_goals walk_at "go"
    all_goals rename_i l hl
    all_goals first
      | exact k1 o l b _ upd_same (hL'.new hl) (fun x o e => RD.upd_new hl (he x o e))
      | exact k2 o l _ upd_same (fun x o e => RD.upd_new hl (he x o e))
theorem scLIs : FnScope ["_law_length_here", "_law_count", "_law_powers", "_law_power"] ["_law_length_here", "_law_count", "_law_powers"] (defScope sLIs) := ⟨rfl, rfl, rfl, by decide +kernel, rfl, by decide +kernel, by decide +kernel⟩
theorem ok_lis {f fW C : Addr} {mc um ud : Value} {fd fdW : FuncData} (F : Fun K "_law_is" "_law_is" sLIs f fd) (T : TxB mg) (TL : TxLen K mg C mc um ud) (IS : C8.InsC K C)
    (GW : FnOk P w K mg base CX0 1 fW fdW ["_law_x"] spWhole) (bW : Binds K fdW ["_law_x"] []) (mgW : mg "_law_whole" = some (.ref fW)) (kW : PySem.W.keepIn K (.ref fW) = true) :
    FnOk P w K mg base CX0 2 f fd ["_law_length_here", "_law_count", "_law_powers"] (spLIs C) := by
  refine F.ok scLIs (fun vs H Q E h => ?_) (fun cdv A outer s H vs Q E hr h => ?_)
  · obtain ⟨a, q, c, ps, rfl, _⟩ := h
    rfl
  · obtain ⟨a, q, c, ps, rfl, ⟨dx, p, ha, hp⟩, hq, k⟩ := h
    have nd := scLIs.nd
    have hcl := TL.cl
    have hnc := TL.nc
    have hnp := TL.np
    refine ⟨_, (pss_cons (ps_if (PW.pt (pw_or (pt_not (pt_val (pe_callB (C8.call_isC IS) (by rfl) T.isinstance (by decide +kernel) (pa_cons (pv 0) (pa_cons (pe_glob (v := .ref C) rfl TL.g rfl) pa_nil))))) (pw_or (pt_not (pt_val (pe_call GW hr (by rfl) mgW kW bW .nil pass0 (pa_cons (pe_fld (pv 0) rfl) pa_nil)))) (pw_or1 (pt_not (pt_val (pe_callB call_isi (by rfl) T.isinstance (by decide +kernel) (pa_cons (pe_fld (pv 0) rfl) (pa_cons (pe_bltn (v := .ty "tuple") (by rfl) T.tuple PyProof.Rows.boot_tuple rfl) pa_nil)))))))))
(pss_one (ps_ret pe_bl))
pss_nil)
(pss_cons (ps_for PassesOwn.never rfl (pi_tup (pe_fld (pv 0) rfl)) (pg_name (i := 3) nd rfl (Or.inl rfl))
(pss_one (ps_if (pt_not (pt_val (pe_call GW hr (by rfl) mgW kW bW .nil pass0 (pa_cons (pv 3) pa_nil))))
(pss_one (ps_ret pe_bl))
pss_nil)))
(pss_one (ps_ret (pe_and (pe_cmpR op_eq (pe_fld (pv 0) rfl) (pv 1) (nomark _)) (pe_one (pe_cmpR (op_eqD hr.units) (pe_fld (pv 0) rfl) (pv 2) (nomark _)))))))), ?_⟩
    refine RD.r_start (σ' := [some (.ref a), some (.int c), some (.ref q), none]) rfl ?_
    dsimp only [cxOf, Cx.nox, Cx.wish]
    walk_at "go"
    refine RD.r_forTx (SqT.of hp) (fun i σ H' => H' = H ∧ ∃ v, σ = [some (.ref a), some (.int c), some (.ref q), v]) ⟨rfl, _, rfl⟩ (fun i σ H' _ h => by rw [h.1]; exact SqT.of hp) ?_ ?_
    · rintro i y σ H' hi ⟨rfl, v, rfl⟩
      obtain ⟨z, rfl⟩ : ∃ z : Int, y = V.int z := by
        rw [List.getElem?_map] at hi
        cases e : ps[i]? with
        | none => rw [e] at hi; cases hi
        | some z => rw [e] at hi; exact ⟨z, (Option.some.inj hi).symm⟩
      walk_at "go"
      exact ⟨rfl, _, rfl⟩
    · rintro σ H' ⟨rfl, v, rfl⟩
      walk_at "go"
      all_goals first
        | (have e : decide (ps = ps) = true := by simp
           rw [e]; exact k)
        | exact absurd rfl (by assumption)
end

theorem scLaw : FnScope ["_law_script", "_law_pool_here", "_law_many", "_law_plain_here", "_law_share", "_law_a", "_law_one", "_law_kind", "_law_made", "_law_powers", "_law_count", "_law_shares", "_law_k"] ["_law_script"] (defScope sLaw) := ⟨rfl, rfl, rfl, by decide +kernel, rfl, by decide +kernel, by decide +kernel⟩
def spLaw (K : PySem.W.Frag) : Sp := fun vs H Q _ => ∃ (a : Addr) (ns : List Int), vs = [.ref a] ∧ SqL K H a (ns.map V.int) ∧ ns.length ≤ 63 ∧ ∀ H', Q (.bl true) H'
section
variable {P : Program} {w : World} {K : PySem.W.Frag} {mg : Str → Option Value} {base : Heap}
theorem ok_law {f fP fT fL fX fY fZ fI C B : Addr} {mc um ud : Value} {fd fdP fdT fdL fdX fdY fdZ fdI : FuncData} (F : Fun K "law" "law" sLaw f fd) (T : TxB mg) (TL : TxLen K mg C mc um ud)
    (GP : FnOk P w K mg base CX0 1 fP fdP ["_law_script"] (spPool K)) (bP : Binds K fdP ["_law_script"] []) (mgP : mg "_law_pool" = some (.ref fP)) (kP : PySem.W.keepIn K (.ref fP) = true)
    (GT : FnOk P w K mg base CX0 1 fT fdT ["_law_pool_here", "_law_size"] spTake) (bT : Binds K fdT ["_law_pool_here", "_law_size"] []) (mgT : mg "_law_take" = some (.ref fT)) (kT : PySem.W.keepIn K (.ref fT) = true)
    (GL : FnOk P w K mg base CX0 2 fL fdL ["_law_pool_here", "_law_many"] spLLen) (bL : Binds K fdL ["_law_pool_here", "_law_many"] []) (mgL : mg "_law_length" = some (.ref fL)) (kL : PySem.W.keepIn K (.ref fL) = true)
    (GX : FnOk P w K mg base CX0 4 fX fdX ["_law_a", "_law_share"] (spLWashed C)) (bX : Binds K fdX ["_law_a", "_law_share"] []) (mgX : mg "_law_washed" = some (.ref fX)) (kX : PySem.W.keepIn K (.ref fX) = true)
    (GY : FnOk P w K mg base CX0 4 fY fdY ["_law_count", "_law_many"] (spLPlain C)) (bY : Binds K fdY ["_law_count", "_law_many"] []) (mgY : mg "_law_plain" = some (.ref fY)) (kY : PySem.W.keepIn K (.ref fY) = true)
    (GZ : FnOk P w K mg base CX0 2 fZ fdZ ["_law_length_here", "_law_count", "_law_powers"] (spLIs C)) (bZ : Binds K fdZ ["_law_length_here", "_law_count", "_law_powers"] []) (mgZ : mg "_law_is" = some (.ref fZ)) (kZ : PySem.W.keepIn K (.ref fZ) = true)
    (MI : Mk K C fI) (GI : FnOk P w K mg base (L2.CX P w) 1 fI fdI ["self", "count", "powers"] (spLenInit C B)) (bI : Binds K fdI ["self", "count", "powers"] []) :
    FnOk P w K mg base CX0 6 f fd ["_law_script"] (spLaw K) := by
  refine F.ok scLaw (fun vs H Q E h => ?_) (fun cdv A outer s H vs Q E hr h => ?_)
  · obtain ⟨a, ns, rfl, _⟩ := h
    rfl
  · obtain ⟨a, ns, rfl, hS, hlen, k⟩ := h
    have nd := scLaw.nd
    have hr1 : Room 1 _ := hr.mono (by decide)
    have hr2 : Room 2 _ := hr.mono (by decide)
    have hr4 : Room 4 _ := hr.mono (by decide)
    have hcl := TL.cl
    have hnc := TL.nc
    have hnp := TL.np
    refine ⟨_, (pss_cons (ps_set (i := 1) nd rfl (Or.inl rfl) (pe_call GP hr1 (by rfl) mgP kP bP .nil pass0 (pa_cons (pv 0) pa_nil)))
(pss_cons (ps_set (i := 2) nd rfl (Or.inl rfl) (pe_op op_add pe_int (pe_call GT hr1 (by rfl) mgT kT bT .nil pass0 (pa_cons (pv 1) (pa_cons pe_int pa_nil)))))
(pss_cons (ps_set (i := 3) nd rfl (Or.inl rfl) (pe_call GL hr2 (by rfl) mgL kL bL .nil pass0 (pa_cons (pv 1) (pa_cons (pv 2) pa_nil))))
(pss_cons (ps_set (i := 4) nd rfl (Or.inl rfl) (pe_call GT hr1 (by rfl) mgT kT bT .nil pass0 (pa_cons (pv 1) (pa_cons (pv 2) pa_nil))))
(C8.pss_cut (ps_if (pt_cmpR op_eq (pe_call GT hr1 (by rfl) mgT kT bT .nil pass0 (pa_cons (pv 1) (pa_cons pe_int pa_nil))) pe_int (nomark _))
(pss_one (ps_set (i := 4) nd rfl (Or.inl rfl) (pe_ix ix_list (pe_lst (pa_cons (pe_un un_neg pe_int) (pa_cons (pv 2) (pa_cons (pe_op op_add (pv 2) pe_int) (pa_cons (pe_un un_neg pe_int) (pa_cons (pe_un un_neg (pv 2)) pa_nil)))))) (pe_call GT hr1 (by rfl) mgT kT bT .nil pass0 (pa_cons (pv 1) (pa_cons pe_int pa_nil))) (fun _ _ => rfl))))
pss_nil)
(pss_cons (ps_set (i := 5) nd rfl (Or.inl rfl) (pe_make MI GI hr2 rfl TL.g bI .nil passL (pa_cons (pe_ix ix_tup (pv 3) pe_int (fun _ _ => rfl)) (pa_cons (pe_callTy call_list_of (by rfl) T.list (by decide +kernel) (pa_cons (pe_ix ix_tup (pv 3) pe_int (fun _ _ => rfl)) pa_nil)) pa_nil))))
(pss_cons (ps_for PassesOwn.never rfl (pi_list (pe_op op_cat (pe_op op_cat (pe_lst (pa_cons (pv 4) pa_nil)) (pe_listRg rfl (by rfl) T.list (prg_1 (by rfl) T.range (pv 2)))) (pe_lst (pa_cons (pv 4) pa_nil)))) (pg_name (i := 6) nd rfl (Or.inl rfl))
(pss_cons (ps_asg (pe_call GX hr4 (by rfl) mgX kX bX .nil pass0 (pa_cons (pv 5) (pa_cons (pv 6) pa_nil))) (pg_tup rfl (pgs_cons (pg_name (i := 7) nd rfl (Or.inl rfl)) (pgs_cons (pg_name (i := 8) nd rfl (Or.inl rfl)) pgs_nil))))
(pss_cons (ps_if (PW.pt (pw_or (pt_cmpR op_lt (pv 6) pe_int (nomark _)) (pw_or1 (pt_cmpR op_ge (pv 6) (pv 2) (nomark _)))))
(pss_one (ps_if (pt_cmpR op_ne (pv 7) pe_str (nomark _))
(pss_one (ps_ret pe_bl))
pss_nil))
(pss_one (ps_if (pt_cmpR op_eq (pe_ix ix_tup (pe_ix ix_tup (pv 3) pe_int (fun _ _ => rfl)) (pv 6) (fun _ _ => rfl)) pe_int (nomark _))
(pss_one (ps_if (pt_cmpR op_ne (pv 7) pe_str (nomark _))
(pss_one (ps_ret pe_bl))
pss_nil))
(pss_cons (ps_set (i := 9) nd rfl (Or.inl rfl) (pe_callTy call_list_of (by rfl) T.list (by decide +kernel) (pa_cons (pe_ix ix_tup (pv 3) pe_int (fun _ _ => rfl)) pa_nil)))
(pss_cons (ps_asg (pe_op op_add (pe_ix ix_list (pv 9) (pv 6) (fun _ _ => rfl)) pe_int) (pg_sub (pv 9) (pv 6) set_list))
(pss_one (ps_if (PW.pt (pw_or (pt_cmpR op_ne (pv 7) pe_str (nomark _)) (pw_or1 (pt_not (pt_val (pe_call GZ hr2 (by rfl) mgZ kZ bZ .nil pass0 (pa_cons (pv 8) (pa_cons (pe_ix ix_tup (pv 3) pe_int (fun _ _ => rfl)) (pa_cons (pe_callTy call_tuple_of (by rfl) T.tuple (by decide +kernel) (pa_cons (pv 9) pa_nil)) pa_nil)))))))))
(pss_one (ps_ret pe_bl))
pss_nil)))))))
(pss_one (ps_if (pt_not (pt_val (pe_call GZ hr2 (by rfl) mgZ kZ bZ .nil pass0 (pa_cons (pv 5) (pa_cons (pe_ix ix_tup (pv 3) pe_int (fun _ _ => rfl)) (pa_cons (pe_ix ix_tup (pv 3) pe_int (fun _ _ => rfl)) pa_nil))))))
(pss_one (ps_ret pe_bl))
pss_nil)))))
(pss_cons (ps_set (i := 10) nd rfl (Or.inl rfl) (pe_op op_add (pe_op op_add pe_int (pe_op op_mul (pe_call GT hr1 (by rfl) mgT kT bT .nil pass0 (pa_cons (pv 1) (pa_cons pe_int pa_nil))) pe_int)) (pe_call GT hr1 (by rfl) mgT kT bT .nil pass0 (pa_cons (pv 1) (pa_cons pe_int pa_nil)))))
(C8.pss_cut (ps_if (pt_cmpR op_eq (pe_call GT hr1 (by rfl) mgT kT bT .nil pass0 (pa_cons (pv 1) (pa_cons pe_int pa_nil))) pe_int (nomark _))
(pss_one (ps_set (i := 10) nd rfl (Or.inl rfl) (pe_ix ix_list (pe_lst (pa_cons pe_int (pa_cons (pe_un un_neg pe_int) (pa_cons pe_int pa_nil)))) (pe_call GT hr1 (by rfl) mgT kT bT .nil pass0 (pa_cons (pv 1) (pa_cons pe_int pa_nil))) (fun _ _ => rfl))))
pss_nil)
(pss_cons (ps_set (i := 11) nd rfl (Or.inl rfl) (pe_call GT hr1 (by rfl) mgT kT bT .nil pass0 (pa_cons (pv 1) (pa_cons pe_int pa_nil))))
(C8.pss_cut (ps_if (pt_cmpR op_eq (pe_call GT hr1 (by rfl) mgT kT bT .nil pass0 (pa_cons (pv 1) (pa_cons pe_int pa_nil))) pe_int (nomark _))
(pss_one (ps_set (i := 11) nd rfl (Or.inl rfl) (pe_ix ix_list (pe_lst (pa_cons (pe_un un_neg pe_int) (pa_cons (pe_op op_pow pe_int pe_int) pa_nil))) (pe_call GT hr1 (by rfl) mgT kT bT .nil pass0 (pa_cons (pv 1) (pa_cons pe_int pa_nil))) (fun _ _ => rfl))))
pss_nil)
(pss_cons (ps_asg (pe_call GY hr4 (by rfl) mgY kY bY .nil pass0 (pa_cons (pv 10) (pa_cons (pv 11) pa_nil))) (pg_tup rfl (pgs_cons (pg_name (i := 7) nd rfl (Or.inl rfl)) (pgs_cons (pg_name (i := 8) nd rfl (Or.inl rfl)) pgs_nil))))
(pss_cons (ps_if (PW.pt (pw_and (pt_chain op_le op_le pe_int (pv 10) pe_int) (pw_and1 (pt_chain op_le op_le pe_int (pv 11) pe_int))))
(pss_one (ps_ret (pe_and (pe_cmpR op_eq (pv 7) pe_str (nomark _)) (pe_one (pe_call GZ hr2 (by rfl) mgZ kZ bZ .nil pass0 (pa_cons (pv 8) (pa_cons (pv 10) (pa_cons (pe_callTy call_tuple_of (by rfl) T.tuple (by decide +kernel) (pa_cons (pe_lc (own := [("_law_k", 12)]) (g := gName 12) (tt := tYes) rfl nd (pi_range1 (by rfl) T.range (pa_cons (pv 11) pa_nil)) (blkOk_by (N := ["_law_script", "_law_pool_here", "_law_many", "_law_plain_here", "_law_share", "_law_a", "_law_one", "_law_kind", "_law_made", "_law_powers", "_law_count", "_law_shares", "_law_k"]) (sc := defScope sLaw) (by decide +kernel)) (fun _ _ _ _ _ => pg_name (i := 12) nd rfl (Or.inl rfl)) (fun _ _ _ _ _ => pts_nil) (fun _ _ _ _ _ => pe_int)) pa_nil)) pa_nil))))))))
pss_nil)
(pss_one (ps_ret (pe_cmpR op_eq (pv 7) pe_str (nomark _))))))))))))))))), ?_⟩
    refine RD.r_start (σ' := [some (.ref a), none, none, none, none, none, none, none, none, none, none, none, none]) rfl ?_
    dsimp only [cxOf, Cx.nox, Cx.wish]
    walk_at "go"
    refine ⟨a, ns, rfl, hS, fun p c H1 hpn hcn hP1 hext => ?_⟩
    have hl1000 : ns.length ≤ 1000 := by omega
    walk_at "go"
    rename_i m0 H0 hm0 hm1 hP0 hk0
    refine ⟨p, c, ns, _, _, rfl, hP0, (by omega), (by omega), (by omega), (by omega), fun q tp cnt pw H2 hq htp hlen ok hP2 hk2 hqn htpn => ?_⟩
    have np : ∀ z, H0 z = none → z ≠ p := fun z hz e => by
      obtain ⟨o, ho⟩ := hP0.at
      rw [e, ho] at hz; cases hz
    have hqp := np q hqn
    have htpp := np tp htpn
    have hc := ok.1
    have hlm : (pw.map V.int).length = pw.length := List.length_map _
    clear hk0 hk2 hext
    walk_at "go"
    rename_i sh HA hA0 hA1 hPA hkA
    refine ⟨fun σ' H' => ∃ z : Int, σ' = [some (.ref a), some (.ref p), some (.int (1 + m0)), some (.ref q), some (.int z), none, none, none, none, none, none, none, none] ∧ PoolAt H' p c ns 20 ∧ H' q = some (.tup [.int cnt, .ref tp]) ∧ H' tp = some (.tup (pw.map V.int)), ?_, ?_⟩
    · walk_at "go"
      · rename_i vD HD hD0 hD1 hPD hkD hbr l hl v5 H5 h50 h51 hP5 hk5
        have hlp := (hPD.ne_new hl).1
        refine RD.r_ixMenu (by walk_at "hp") rfl h50 (by simp; omega) fun z _ => ?_
        walk_at "go"
        exact ⟨z, rfl, PoolAt.mono hP5 (by omega), by walk_at "hp", by walk_at "hp"⟩
      · rename_i vD HD hD0 hD1 hPD hkD hbr
        exact ⟨sh, rfl, PoolAt.mono hPD (by omega), by walk_at "hp", by walk_at "hp"⟩
    rintro σ3 H3 ⟨z, rfl, hP3, hq3, htp3⟩
    clear hkA hPA hP2 hq htp
    walk_at "go"
    rename_i l hl
    refine mkLen (.inl upd_same) (by have := ok.2.1; omega) (fun _ x H4 hL hext hx => ?_) (fun no => absurd ok no)
    have hq4 : H4 q = some (.tup [.int cnt, .ref tp]) := by walk_at "hp"
    have htp4 : H4 tp = some (.tup (pw.map V.int)) := by walk_at "hp"
    have hP4 : PoolAt H4 p c ns 20 := (hP3.new hl).ext hext
    clear hext hq3 htp3 hP3
    walk_at "go"
    rename_i lA hlA lB hlB lC hlC lD hlD l5 hl5
    have hP5 : PoolAt (upd (upd (upd (upd (upd H4 lA (.lst [V.int z])) lB (.lst (rgV 0 (1 + m0)))) lC (.lst ([V.int z] ++ rgV 0 (1 + m0)))) lD (.lst [V.int z])) l5 (.lst ([V.int z] ++ rgV 0 (1 + m0) ++ [V.int z]))) p c ns 20 := by walk_at "pool"
    have hL5 : LenAt (upd (upd (upd (upd (upd H4 lA (.lst [V.int z])) lB (.lst (rgV 0 (1 + m0)))) lC (.lst ([V.int z] ++ rgV 0 (1 + m0)))) lD (.lst [V.int z])) l5 (.lst ([V.int z] ++ rgV 0 (1 + m0) ++ [V.int z]))) C x cnt pw := by walk_at "len"
    have hall : ([V.int z] ++ rgV 0 (1 + m0) ++ [V.int z]).all RD.isIntV = true := by
      rw [List.all_append, List.all_append, RD.all_rg]; rfl
    have hlpw : (pw.length : Int) = 1 + m0 := by omega
    refine RD.r_forLx (SqL.of upd_same) (fun i σ H' => ∃ (v6 v7 v8 v9 : Option V), σ = [some (.ref a), some (.ref p), some (.int (1 + m0)), some (.ref q), some (.int z), some (.ref x), v6, v7, v8, v9, none, none, none] ∧
      H' l5 = some (.lst ([V.int z] ++ rgV 0 (1 + m0) ++ [V.int z])) ∧ PoolAt H' p c ns 20 ∧ H' q = some (.tup [.int cnt, .ref tp]) ∧ H' tp = some (.tup (pw.map V.int)) ∧ LenAt H' C x cnt pw)
      ⟨none, none, none, none, rfl, upd_same, hP5, by walk_at "hp", by walk_at "hp", hL5⟩ (fun i σ H' _ h => by obtain ⟨_, _, _, _, _, h, _⟩ := h; exact SqL.of h) ?_ ?_
    · rintro i y σ H6 hi ⟨v6, v7, v8, v9, rfl, hl6, hP6, hq6, htp6, hL6⟩
      obtain ⟨j, rfl⟩ := RD.all_get hall hi
      clear hP5 hL5 hq4 htp4 hP4 hL
      walk_at "go"
      refine ⟨x, j, cnt, pw, rfl, hL6, ok, fun n h e1 e2 t b H7 ht hb he => ?_, fun n h e1 e2 t H7 ht he => ?_, fun e1 t H7 ht he => ?_⟩
      all_goals have hl7 := he _ _ hl6
      all_goals have hP7 := hP6.ext he
      all_goals have hq7 := he _ _ hq6
      all_goals have htp7 := he _ _ htp6
      all_goals have hL7 := hL6.ext he
      all_goals clear he hl6 hP6 hq6 htp6 hL6
      · subst e1
        have hg : ¬ pw.getD ((n : Int)).toNat 0 = 2 := by
          rw [Int.toNat_natCast, List.getD_eq_getElem?_getD, List.getElem?_eq_getElem h]; exact e2
        have hset : pw.set ((n : Int)).toNat (pw.getD ((n : Int)).toNat 0 + 1) = pw.set n (pw[n] + 1) := by
          rw [Int.toNat_natCast, List.getD_eq_getElem?_getD, List.getElem?_eq_getElem h]; rfl
        walk_at "go"
        rename_i lW hlW
        refine RD.r_setI upd_same (by omega) (by omega) ?_
        rw [hset, upd_upd]
        walk_at "go"
        refine RD.r_tupOfL (SqL.of upd_same) fun t2 ht2 => ?_
        walk_at "go"
        refine ⟨b, t2, cnt, _, rfl, (hb.new hlW).new ht2, upd_same, ?_⟩
        walk_at "go"
        refine ⟨x, tp, cnt, pw, rfl, (hL7.new hlW).new ht2, RD.upd_new ht2 (RD.upd_new hlW htp7), ?_⟩
        walk_at "go"
        exact ⟨_, _, _, _, rfl, RD.upd_new ht2 (RD.upd_new hlW hl7), (hP7.new hlW).new ht2, RD.upd_new ht2 (RD.upd_new hlW hq7), RD.upd_new ht2 (RD.upd_new hlW htp7), (hL7.new hlW).new ht2⟩
      · subst e1
        have hg : pw.getD ((n : Int)).toNat 0 = 2 := by
          rw [Int.toNat_natCast, List.getD_eq_getElem?_getD, List.getElem?_eq_getElem h]; exact e2
        walk_at "go"
        refine ⟨x, tp, cnt, pw, rfl, hL7, htp7, ?_⟩
        walk_at "go"
        exact ⟨_, _, _, _, rfl, hl7, hP7, hq7, htp7, hL7⟩
      · walk_at "go"
        all_goals refine ⟨x, tp, cnt, pw, rfl, hL7, htp7, ?_⟩
        all_goals walk_at "go"
        all_goals exact ⟨_, _, _, _, rfl, hl7, hP7, hq7, htp7, hL7⟩
    · rintro σ H6 ⟨v6, v7, v8, v9, rfl, hl6, hP6, hq6, htp6, hL6⟩
      clear hP5 hL5 hq4 htp4 hP4 hL
      walk_at "go"
      rename_i cA HcA hcA0 hcA1 hPcA hkcA cB HcB hcB0 hcB1 hPcB hkcB
      refine ⟨fun σ' H' => ∃ ct : Int, σ' = [some (.ref a), some (.ref p), some (.int (1 + m0)), some (.ref q), some (.int z), some (.ref x), v6, v7, v8, v9, some (.int ct), none, none] ∧ PoolAt H' p c ns 30, ?_, ?_⟩
      · walk_at "go"
        · rename_i vD HD hD0 hD1 hPD hkD hbr l hl v5 H5 h50 h51 hP5 hk5
          have hlp := (hPD.ne_new hl).1
          refine RD.r_ixMenu (by walk_at "hp") rfl h50 (by simp; omega) fun z _ => ?_
          walk_at "go"
          exact ⟨z, rfl, PoolAt.mono hP5 (by omega)⟩
        · rename_i vD HD hD0 hD1 hPD hkD hbr
          exact ⟨_, rfl, PoolAt.mono hPD (by omega)⟩
      rintro σ8 H8 ⟨ct, rfl, hP8⟩
      clear hP6 hPcA hPcB hkcA hkcB
      walk_at "go"
      rename_i s0 HE hE0 hE1 hPE hkE
      refine ⟨fun σ' H' => ∃ sh2 : Int, σ' = [some (.ref a), some (.ref p), some (.int (1 + m0)), some (.ref q), some (.int z), some (.ref x), v6, v7, v8, v9, some (.int ct), some (.int sh2), none], ?_, ?_⟩
      · walk_at "go"
        · rename_i vD HD hD0 hD1 hPD hkD hbr l hl v5 H5 h50 h51 hP5 hk5
          have hlp := (hPD.ne_new hl).1
          refine RD.r_ixMenu (by walk_at "hp") rfl h50 (by simp; omega) fun z _ => ?_
          walk_at "go"
          exact ⟨z, rfl⟩
        · exact ⟨_, rfl⟩
      rintro σ9 H9 ⟨sh2, rfl⟩
      clear hP8 hPE hkE
      walk_at "go"
      refine ⟨ct, sh2, rfl, fun o t b HF ht hb he => ?_, fun o t HF ht he => ?_⟩
      · clear he
        walk_at "go"
        refine ⟨_, rfl, _, rfl, by omega, by omega, fun D hD => lc_range (lo := 0) (n := sh2.toNat) (fun i H' => H' D = some (.lst ((List.replicate i (0 : Int)).map V.int)) ∧ ∀ b o, b ≠ D → HF b = some o → H' b = some o)
          ⟨upd_same, fun b o hb e => by rw [upd_ne hb]; exact e⟩ ?_ ?_⟩
        · rintro i HG hi ⟨hg1, hg2⟩
          refine ⟨rfl, ?_⟩
          refine RD.r_tyes ?_
          refine iteT ?_
          refine RD.r_c ?_
          refine ⟨_, hg1, by rw [List.length_map, List.length_replicate]; exact small1000 (by omega), ?_, fun b o hb e => by rw [upd_ne hb]; exact hg2 b o hb e⟩
          rw [upd_same, RD.map_app, List.replicate_succ']
        · rintro HG ⟨hg1, hg2⟩
          have hbG : LenAt HG C b ct (List.replicate sh2.toNat 0) := hb.ext' hD hg2
          walk_at "go"
          refine RD.r_tupOfL (SqL.of hg1) fun t2 ht2 => ?_
          walk_at "go"
          exact ⟨b, t2, ct, _, rfl, hbG.new ht2, upd_same, k _⟩
      · clear he
        have e : ∀ s : Str, decide (s = s) = true := fun s => decide_eq_true rfl
        walk_at "go"
        all_goals (show Q (V.bl (decide ((_ : Str) = _))) _; rw [e]; exact k _)
end

theorem all_mk {l : PySem.W.OpenLaw} {w : World} {K : PySem.W.Frag} {h : Heap} {mg : Str → Option Value} {fa pL C B N O fI fS fpl fP fT fW fL fX fY fZ fLaw : Addr} (X : K.In h) (G : h.Ns mainGlobals mg) (hfa : mg "law" = some (.ref fa))
    {tmo tde tms : Tok} {restp : List Value} {oc0 kV0 dc0 pm0 cd0 ct0 : Value} {od0 an0 : Option Addr} {sl0 : Array (Option Value)} {oc1 kV1 dc1 pm1 cd1 ct1 : Value} {od1 an1 : Option Addr} {sl1 : Array (Option Value)} {oc2 kV2 dc2 pm2 cd2 ct2 : Value} {od2 an2 : Option Addr} {sl2 : Array (Option Value)} {oc3 kV3 dc3 pm3 cd3 ct3 : Value} {od3 an3 : Option Addr} {sl3 : Array (Option Value)} {oc4 kV4 dc4 pm4 cd4 ct4 : Value} {od4 an4 : Option Addr} {sl4 : Array (Option Value)} {oc5 kV5 dc5 pm5 cd5 ct5 : Value} {od5 an5 : Option Addr} {sl5 : Array (Option Value)} {oc6 kV6 dc6 pm6 cd6 ct6 : Value} {od6 an6 : Option Addr} {sl6 : Array (Option Value)} {oc7 kV7 dc7 pm7 cd7 ct7 : Value} {od7 an7 : Option Addr} {sl7 : Array (Option Value)} {oc8 kV8 dc8 pm8 cd8 ct8 : Value} {od8 an8 : Option Addr} {sl8 : Array (Option Value)} {oc9 kV9 dc9 pm9 cd9 ct9 : Value} {od9 an9 : Option Addr} {sl9 : Array (Option Value)} {oc10 kV10 dc10 pm10 cd10 ct10 : Value} {od10 an10 : Option Addr} {sl10 : Array (Option Value)}
    (aC : PySem.W.nsIn K mainGlobals "Length" = some (some (.ref C)))
    (pgC : PySem.W.plainGet K C Str.empty = true)
    (hdC : PySem.W.hasDictIn K C = true)
    (poC : PySem.W.plainOver K C = true)
    (saC : PySem.W.findIn K (.ref C) "__setattr__" = some (some (.builtin "object.__setattr__")))
    (mkC : PySem.W.makesIn K C = true)
    (kcC : PySem.W.keepIn K (.ref C) = true)
    (nC_count : PySem.W.findIn K (.ref C) "count" = some none)
    (nC_powers : PySem.W.findIn K (.ref C) "powers" = some none)
    (rdC : PySem.W.readsIn K C (.type "type") = true)
    (gaC : PySem.W.specialIn K (.ref C) "__getattribute__" = some (some (.builtin "type.__getattribute__")))
    (moC : PySem.W.findCls K (.ref C) (.type "type") "MOST" = some (.val (.int 1000000 tmo)))
    (deC : PySem.W.findCls K (.ref C) (.type "type") "DEEP" = some (.val (.int 2 tde)))
    (clC : PySem.W.findIn K (.ref C) "__class__" = some (some (.builtin "object.__class__")))
    (hnC : PySem.W.specialIn K (.builtin "object.__class__") "__get__" = some (some (.builtin "getset_descriptor.__get__")))
    (tkC : PySem.W.takesIn K (.builtin "object.__class__") = some true)
    (mrC : PySem.W.mroIn K C (.type "object") = some true)
    (msC : PySem.W.nsIn K mainGlobals "MOST_SHARES" = some (some (.int 4 tms)))
    (plC : PySem.W.findCls K (.ref C) (.type "type") "plain" = some (.get (.builtin "classmethod.__get__") (.ref pL) .none (.ref C)))
    (rcC : PySem.W.recIn K pL "classmethod" = some (.ref fpl :: restp))
    (fiC : PySem.W.fnIn K fpl = true)
    (aB : PySem.W.nsIn K mainGlobals "BadLength" = some (some (.ref B)))
    (xB : PySem.W.excIn K B [.type "ValueError", .type "Exception", .type "BaseException", .type "object"] "ValueError.__new__" = true)
    (kB : PySem.W.keepIn K (.ref B) = true)
    (bB : PySem.W.subIn K (.ref B) (.type "BaseException") = some true)
    (tB : PySem.W.typeIn K (.ref B) = some (.type "type"))
    (iB : PySem.W.isClsIn K B = true)
    (sB : PySem.W.subIn K (.ref B) (.ref B) = some true)
    (aN : PySem.W.nsIn K mainGlobals "NoShare" = some (some (.ref N)))
    (xN : PySem.W.excIn K N [.type "ValueError", .type "Exception", .type "BaseException", .type "object"] "ValueError.__new__" = true)
    (kN : PySem.W.keepIn K (.ref N) = true)
    (bN : PySem.W.subIn K (.ref N) (.type "BaseException") = some true)
    (tN : PySem.W.typeIn K (.ref N) = some (.type "type"))
    (iN : PySem.W.isClsIn K N = true)
    (sN : PySem.W.subIn K (.ref N) (.ref N) = some true)
    (aO : PySem.W.nsIn K mainGlobals "TooOften" = some (some (.ref O)))
    (xO : PySem.W.excIn K O [.type "ValueError", .type "Exception", .type "BaseException", .type "object"] "ValueError.__new__" = true)
    (kO : PySem.W.keepIn K (.ref O) = true)
    (bO : PySem.W.subIn K (.ref O) (.type "BaseException") = some true)
    (tO : PySem.W.typeIn K (.ref O) = some (.type "type"))
    (iO : PySem.W.isClsIn K O = true)
    (sO : PySem.W.subIn K (.ref O) (.ref O) = some true)
    (zON : PySem.W.subIn K (.ref O) (.ref N) = some false)
    (z_list : PySem.W.nsIn K mainGlobals "list" = some none)
    (z_int : PySem.W.nsIn K mainGlobals "int" = some none)
    (z_len : PySem.W.nsIn K mainGlobals "len" = some none)
    (z_tuple : PySem.W.nsIn K mainGlobals "tuple" = some none)
    (z_bool : PySem.W.nsIn K mainGlobals "bool" = some none)
    (z_isinstance : PySem.W.nsIn K mainGlobals "isinstance" = some none)
    (z_range : PySem.W.nsIn K mainGlobals "range" = some none)
    (afI : PySem.W.findIn K (.ref C) "__init__" = some (some (.ref fI)))
    (ifI : PySem.W.isFn K (.ref fI) = true)
    (lfI : K.lookup fI = some ⟨oc0, od0, .func (PySem.W.fnOf "__init__" "Length.__init__" (defArgs sLenInit) (defBody sLenInit) (defScope sLenInit) .none kV0 dc0 pm0 an0 cd0 ct0), sl0⟩)
    (cfI : PySem.W.codeIn K cd0 "Length.__init__" = true)
    (kfI : PySem.W.keepIn K (.ref fI) = true)
    (afS : PySem.W.findIn K (.ref C) "washed" = some (some (.ref fS)))
    (ifS : PySem.W.isFn K (.ref fS) = true)
    (lfS : K.lookup fS = some ⟨oc1, od1, .func (PySem.W.fnOf "washed" "Length.washed" (defArgs sWashed) (defBody sWashed) (defScope sWashed) .none kV1 dc1 pm1 an1 cd1 ct1), sl1⟩)
    (cfS : PySem.W.codeIn K cd1 "Length.washed" = true)
    (kfS : PySem.W.keepIn K (.ref fS) = true)
    (lfpl : K.lookup fpl = some ⟨oc2, od2, .func (PySem.W.fnOf "plain" "Length.plain" (defArgs sPlain) (defBody sPlain) (defScope sPlain) .none kV2 dc2 pm2 an2 cd2 ct2), sl2⟩)
    (cfpl : PySem.W.codeIn K cd2 "Length.plain" = true)
    (kfpl : PySem.W.keepIn K (.ref fpl) = true)
    (afP : PySem.W.nsIn K mainGlobals "_law_pool" = some (some (.ref fP)))
    (lfP : K.lookup fP = some ⟨oc3, od3, .func (PySem.W.fnOf "_law_pool" "_law_pool" (defArgs sPool) (defBody sPool) (defScope sPool) .none kV3 dc3 pm3 an3 cd3 ct3), sl3⟩)
    (cfP : PySem.W.codeIn K cd3 "_law_pool" = true)
    (kfP : PySem.W.keepIn K (.ref fP) = true)
    (afT : PySem.W.nsIn K mainGlobals "_law_take" = some (some (.ref fT)))
    (lfT : K.lookup fT = some ⟨oc4, od4, .func (PySem.W.fnOf "_law_take" "_law_take" (defArgs sTake) (defBody sTake) (defScope sTake) .none kV4 dc4 pm4 an4 cd4 ct4), sl4⟩)
    (cfT : PySem.W.codeIn K cd4 "_law_take" = true)
    (kfT : PySem.W.keepIn K (.ref fT) = true)
    (afW : PySem.W.nsIn K mainGlobals "_law_whole" = some (some (.ref fW)))
    (lfW : K.lookup fW = some ⟨oc5, od5, .func (PySem.W.fnOf "_law_whole" "_law_whole" (defArgs sWhole) (defBody sWhole) (defScope sWhole) .none kV5 dc5 pm5 an5 cd5 ct5), sl5⟩)
    (cfW : PySem.W.codeIn K cd5 "_law_whole" = true)
    (kfW : PySem.W.keepIn K (.ref fW) = true)
    (afL : PySem.W.nsIn K mainGlobals "_law_length" = some (some (.ref fL)))
    (lfL : K.lookup fL = some ⟨oc6, od6, .func (PySem.W.fnOf "_law_length" "_law_length" (defArgs sLLen) (defBody sLLen) (defScope sLLen) .none kV6 dc6 pm6 an6 cd6 ct6), sl6⟩)
    (cfL : PySem.W.codeIn K cd6 "_law_length" = true)
    (kfL : PySem.W.keepIn K (.ref fL) = true)
    (afX : PySem.W.nsIn K mainGlobals "_law_washed" = some (some (.ref fX)))
    (lfX : K.lookup fX = some ⟨oc7, od7, .func (PySem.W.fnOf "_law_washed" "_law_washed" (defArgs sLWashed) (defBody sLWashed) (defScope sLWashed) .none kV7 dc7 pm7 an7 cd7 ct7), sl7⟩)
    (cfX : PySem.W.codeIn K cd7 "_law_washed" = true)
    (kfX : PySem.W.keepIn K (.ref fX) = true)
    (afY : PySem.W.nsIn K mainGlobals "_law_plain" = some (some (.ref fY)))
    (lfY : K.lookup fY = some ⟨oc8, od8, .func (PySem.W.fnOf "_law_plain" "_law_plain" (defArgs sLPlain) (defBody sLPlain) (defScope sLPlain) .none kV8 dc8 pm8 an8 cd8 ct8), sl8⟩)
    (cfY : PySem.W.codeIn K cd8 "_law_plain" = true)
    (kfY : PySem.W.keepIn K (.ref fY) = true)
    (afZ : PySem.W.nsIn K mainGlobals "_law_is" = some (some (.ref fZ)))
    (lfZ : K.lookup fZ = some ⟨oc9, od9, .func (PySem.W.fnOf "_law_is" "_law_is" (defArgs sLIs) (defBody sLIs) (defScope sLIs) .none kV9 dc9 pm9 an9 cd9 ct9), sl9⟩)
    (cfZ : PySem.W.codeIn K cd9 "_law_is" = true)
    (kfZ : PySem.W.keepIn K (.ref fZ) = true)
    (afLaw : PySem.W.nsIn K mainGlobals "law" = some (some (.ref fLaw)))
    (lfLaw : K.lookup fLaw = some ⟨oc10, od10, .func (PySem.W.fnOf "law" "law" (defArgs sLaw) (defBody sLaw) (defScope sLaw) .none kV10 dc10 pm10 an10 cd10 ct10), sl10⟩)
    (cfLaw : PySem.W.codeIn K cd10 "law" = true)
    (kfLaw : PySem.W.keepIn K (.ref fLaw) = true) :
    ∃ fd : FuncData, (∀ (s : Shared) (v : Value), BindsTo s fd ⟨[v], []⟩ [("_law_script", v)]) ∧ ∀ base : Heap, K.In base → base.Ns mainGlobals mg → FnOk l.prog w K mg base CX0 6 fa fd ["_law_script"] (spLaw K) := by
  have e := hfa.symm.trans (PySem.W.mg_of X G afLaw)
  cases e
  have FfI := fun_mk (x := "__init__") (qual := "Length.__init__") (st := sLenInit) lfI cfI kfI
  have bfI := FfI.binds (ps := ["self", "count", "powers"]) fun _ _ _ _ _ _ us hl => match us, hl with | [_, _, _], _ => rfl
  have FfS := fun_mk (x := "washed") (qual := "Length.washed") (st := sWashed) lfS cfS kfS
  have bfS := FfS.binds (ps := ["self", "share"]) fun _ _ _ _ _ _ us hl => match us, hl with | [_, _], _ => rfl
  have Ffpl := fun_mk (x := "plain") (qual := "Length.plain") (st := sPlain) lfpl cfpl kfpl
  have bfpl := Ffpl.binds (ps := ["cls", "count", "shares"]) fun _ _ _ _ _ _ us hl => match us, hl with | [_, _, _], _ => rfl
  have FfP := fun_mk (x := "_law_pool") (qual := "_law_pool") (st := sPool) lfP cfP kfP
  have bfP := FfP.binds (ps := ["_law_script"]) fun _ _ _ _ _ _ us hl => match us, hl with | [_], _ => rfl
  have FfT := fun_mk (x := "_law_take") (qual := "_law_take") (st := sTake) lfT cfT kfT
  have bfT := FfT.binds (ps := ["_law_pool_here", "_law_size"]) fun _ _ _ _ _ _ us hl => match us, hl with | [_, _], _ => rfl
  have FfW := fun_mk (x := "_law_whole") (qual := "_law_whole") (st := sWhole) lfW cfW kfW
  have bfW := FfW.binds (ps := ["_law_x"]) fun _ _ _ _ _ _ us hl => match us, hl with | [_], _ => rfl
  have FfL := fun_mk (x := "_law_length") (qual := "_law_length") (st := sLLen) lfL cfL kfL
  have bfL := FfL.binds (ps := ["_law_pool_here", "_law_many"]) fun _ _ _ _ _ _ us hl => match us, hl with | [_, _], _ => rfl
  have FfX := fun_mk (x := "_law_washed") (qual := "_law_washed") (st := sLWashed) lfX cfX kfX
  have bfX := FfX.binds (ps := ["_law_a", "_law_share"]) fun _ _ _ _ _ _ us hl => match us, hl with | [_, _], _ => rfl
  have FfY := fun_mk (x := "_law_plain") (qual := "_law_plain") (st := sLPlain) lfY cfY kfY
  have bfY := FfY.binds (ps := ["_law_count", "_law_many"]) fun _ _ _ _ _ _ us hl => match us, hl with | [_, _], _ => rfl
  have FfZ := fun_mk (x := "_law_is") (qual := "_law_is") (st := sLIs) lfZ cfZ kfZ
  have bfZ := FfZ.binds (ps := ["_law_length_here", "_law_count", "_law_powers"]) fun _ _ _ _ _ _ us hl => match us, hl with | [_, _, _], _ => rfl
  have FfLaw := fun_mk (x := "law") (qual := "law") (st := sLaw) lfLaw cfLaw kfLaw
  have bfLaw := FfLaw.binds (ps := ["_law_script"]) fun _ _ _ _ _ _ us hl => match us, hl with | [_], _ => rfl
  have N' : ∀ n : Str, PySem.W.nsIn K mainGlobals n = some none → mg n = none := fun n hz => PySem.W.mg_none_of X G hz
  have T : TxB mg := ⟨N' _ z_list, N' _ z_int, N' _ z_len, N' _ z_tuple, N' _ z_bool, N' _ z_isinstance, N' _ z_range⟩
  have TC : Cls K C := ⟨pgC, hdC, poC, saC⟩
  have TL : TxLen K mg C (.type "type") (.int 1000000 tmo) (.int 2 tde) := ⟨TC, nC_count, nC_powers, PySem.W.mg_of X G aC, ⟨rdC, gaC⟩, ⟨moC, ⟨_, rfl⟩⟩, ⟨deC, ⟨_, rfl⟩⟩, ⟨_, PySem.W.mg_of X G msC⟩⟩
  have TE : TxErr K mg "BadLength" B := ⟨xB, PySem.W.mg_of X G aB, kB, bB, tB⟩
  have TN : TxErr K mg "NoShare" N := ⟨xN, PySem.W.mg_of X G aN, kN, bN, tN⟩
  have TO : TxErr K mg "TooOften" O := ⟨xO, PySem.W.mg_of X G aO, kO, bO, tO⟩
  have eBB := exm_of bB iB tB sB
  have eNN := exm_of bN iN tN sN
  have eON := exm_of bN iN tN zON
  have eOO := exm_of bO iO tO sO
  have IS : C8.InsC K C := ⟨TC, clC, hnC, tkC, mrC, kit_self⟩
  have MI : Mk K C fI := ⟨mkC, afI, ifI, kcC⟩
  have hmS : Meth K C "washed" fS := ⟨afS, ifS, kfS⟩
  have hmL : ClX.CMet K C (.type "type") "plain" pL fpl := ⟨plC, ⟨_, rcC⟩, fiC⟩
  exact ⟨PySem.W.fnOf "law" "law" (defArgs sLaw) (defBody sLaw) (defScope sLaw) .none kV10 dc10 pm10 an10 cd10 ct10, fun s v => .of_eq rfl, fun base _ _ => by
      have GP := ok_pool (P := l.prog) (w := w) (base := base) FfP T
      have GT := ok_take (P := l.prog) (w := w) (K := K) (base := base) FfT T
      have GW := ok_whole (P := l.prog) (w := w) (K := K) (base := base) FfW T
      have GL := ok_llen (P := l.prog) (w := w) (K := K) (base := base) FfL T GT (PySem.W.mg_of X G afT) kfT bfT
      have GI := ok_lenInit (P := l.prog) (w := w) (base := base) FfI T TL TE
      have GS := ok_washed (P := l.prog) (w := w) (base := base) FfS T TL TN TO MI GI bfI
      have GQ := ok_plain (P := l.prog) (w := w) (base := base) Ffpl T TL TE MI GI bfI
      have GX := ok_lwashed (P := l.prog) (w := w) (base := base) FfX TL TN TO eNN eON eOO hmS GS bfS
      have GY := ok_lplain (P := l.prog) (w := w) (base := base) FfY TL TE eBB hmL GQ bfpl
      have GZ := ok_lis (P := l.prog) (w := w) (base := base) FfZ T TL IS GW bfW (PySem.W.mg_of X G afW) kfW
      exact ok_law FfLaw T TL GP bfP (PySem.W.mg_of X G afP) kfP GT bfT (PySem.W.mg_of X G afT) kfT GL bfL (PySem.W.mg_of X G afL) kfL GX bfX (PySem.W.mg_of X G afX) kfX GY bfY (PySem.W.mg_of X G afY) kfY GZ bfZ (PySem.W.mg_of X G afZ) kfZ MI GI bfI⟩
theorem walk {l : PySem.W.OpenLaw} {q : Program} {loose : List Str} {XP : (Str → Option Value) → Heap → Prop} {YP : World → Heap → Prop} {d : DefRec} {K : Params → PySem.W.Frag} (hn : l.most = some 63) (hdf : d.params.defaults = [])
    (hY : ∀ (w : World) (h : Heap), YP w h → (K w.params).In h)
    (F : ∀ (w : World) (mg : Str → Option Value) (fa : Addr) (h : Heap), (K w.params).In h → h.Ns mainGlobals mg → mg d.name = some (.ref fa) →
      ∃ fd : FuncData, (∀ (s : Shared) (u : Value), BindsTo s fd ⟨[u], []⟩ [("_law_script", u)]) ∧ ∀ base : Heap, (K w.params).In base → base.Ns mainGlobals mg → FnOk l.prog w (K w.params) mg base CX0 6 fa fd ["_law_script"] (spLaw (K w.params))) :
    PySem.W.WalkO q loose XP YP l.row.toRowW d [] (fun f vs => PySem.call f vs) :=
  L2.walk_of (n := 63) (k := 6) (x := "_law_script") (CX := fun _ => CX0) (sp := fun w => spLaw (K w.params)) hn (by decide) hdf ⟨rfl, by decide, by decide⟩ hY F (fun _ _ a ns hl _ hS => ⟨a, ns, rfl, hS, hl, fun _ => rfl⟩) fun _ _ _ _ _ z => z
end K2
open PySem PySem.W PyProof.Rows
set_option maxRecDepth 100000 in
set_option maxHeartbeats 0 in
theorem PySem.Challenge.cw_twicewashed_k04_length_washed_holds : PySem.Challenge.rw_twicewashed_k04_length_washed.Holds := by
  w_on; o_law; k_head; (case hw => w_witness2)
  k_fill
  refine K2.walk (l := PySem.Challenge.rw_twicewashed_k04_length_washed) rfl rfl (fun w h Y => PySem.W.kIn_of Y) ?F
  case F =>
    intro w mg fa h KX G hmg
    refine' K2.all_mk KX G hmg ?aC ?pgC ?hdC ?poC ?saC ?mkC ?kcC ?nC_count ?nC_powers ?rdC ?gaC ?moC ?deC ?clC ?hnC ?tkC ?mrC ?msC ?plC ?rcC ?fiC ?aB ?xB ?kB ?bB ?tB ?iB ?sB ?aN ?xN ?kN ?bN ?tN ?iN ?sN ?aO ?xO ?kO ?bO ?tO ?iO ?sO ?zON ?z_list ?z_int ?z_len ?z_tuple ?z_bool ?z_isinstance ?z_range ?afI ?ifI ?lfI ?cfI ?kfI ?afS ?ifS ?lfS ?cfS ?kfS ?lfpl ?cfpl ?kfpl ?afP ?lfP ?cfP ?kfP ?afT ?lfT ?cfT ?kfT ?afW ?lfW ?cfW ?kfW ?afL ?lfL ?cfL ?kfL ?afX ?lfX ?cfX ?kfX ?afY ?lfY ?cfY ?kfY ?afZ ?lfZ ?cfZ ?kfZ ?afLaw ?lfLaw ?cfLaw ?kfLaw
    (case aC => k_is)
    (case pgC => k_is)
    (case hdC => k_is)
    (case poC => k_is)
    (case saC => k_is)
    (case mkC => k_is)
    (case kcC => k_is)
    (case nC_count => k_is)
    (case nC_powers => k_is)
    (case rdC => k_is)
    (case gaC => k_is)
    (case moC => k_is)
    (case deC => k_is)
    (case clC => k_is)
    (case hnC => k_is)
    (case tkC => k_is)
    (case mrC => k_is)
    (case msC => k_is)
    (case plC => k_is)
    (case rcC => k_is)
    (case fiC => k_is)
    (case aB => k_is)
    (case xB => first | k_exc | k_is)
    (case kB => k_is)
    (case bB => k_is)
    (case tB => k_is)
    (case iB => k_is)
    (case sB => first | rfl | k_is)
    (case aN => k_is)
    (case xN => first | k_exc | k_is)
    (case kN => k_is)
    (case bN => k_is)
    (case tN => k_is)
    (case iN => k_is)
    (case sN => first | rfl | k_is)
    (case aO => k_is)
    (case xO => first | k_exc | k_is)
    (case kO => k_is)
    (case bO => k_is)
    (case tO => k_is)
    (case iO => k_is)
    (case sO => first | rfl | k_is)
    (case zON => k_is)
    (case z_list => k_is)
    (case z_int => k_is)
    (case z_len => k_is)
    (case z_tuple => k_is)
    (case z_bool => k_is)
    (case z_isinstance => k_is)
    (case z_range => k_is)
    (case afI => k_is)
    (case ifI => k_is)
    (case lfI => k_is)
    (case cfI => k_is)
    (case kfI => k_is)
    (case afS => k_is)
    (case ifS => k_is)
    (case lfS => k_is)
    (case cfS => k_is)
    (case kfS => k_is)
    (case lfpl => k_is)
    (case cfpl => k_is)
    (case kfpl => k_is)
    (case afP => k_is)
    (case lfP => k_is)
    (case cfP => k_is)
    (case kfP => k_is)
    (case afT => k_is)
    (case lfT => k_is)
    (case cfT => k_is)
    (case kfT => k_is)
    (case afW => k_is)
    (case lfW => k_is)
    (case cfW => k_is)
    (case kfW => k_is)
    (case afL => k_is)
    (case lfL => k_is)
    (case cfL => k_is)
    (case kfL => k_is)
    (case afX => k_is)
    (case lfX => k_is)
    (case cfX => k_is)
    (case kfX => k_is)
    (case afY => k_is)
    (case lfY => k_is)
    (case cfY => k_is)
    (case kfY => k_is)
    (case afZ => k_is)
    (case lfZ => k_is)
    (case cfZ => k_is)
    (case kfZ => k_is)
    (case afLaw => k_is)
    (case lfLaw => k_is)
    (case cfLaw => k_is)
    (case kfLaw => k_is)

