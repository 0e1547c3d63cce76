import PyProof.Rows.All
import HandS.Base
import HandS.Call
import HandS.ClsMeth
import HandS.Codes
import HandS.Comp
import HandS.Conv
import HandS.Deep
import HandS.Defaults
import HandS.EndBits
import HandS.Ends
import HandS.Exc
import HandS.ExcOwn
import HandS.Flow
import HandS.GenList
import HandS.IsInst
import HandS.Iter
import HandS.List
import HandS.Property
import HandS.SlotsOwn
import HandS.Star
import HandS.TryMany
import HandS.TryOnly
import HandS.TupAny
import HandS.TupMul
import HandS.Wide
import HandS.WideBits
import HandS.Words
import HandS.WordsExc
import HandS.WordsList
import HandS.Zip
import KE.GoesMore
import KE.GoesNew
import KE.GoesRaise
import OpenK.AllK
import PyProof.Rows.ChunkEnd
import Wide.All
import Wide.FinOn
import PySem.Challenge.RW_twicewashed_k11_room_refuses_bolts
set_option Elab.async false
set_option maxRecDepth 100000
set_option maxHeartbeats 4000000
set_option linter.all false
set_option exponentiation.threshold 100
section
namespace RD
open PySem L2
section
variable {σ σ' : L2.St} {H H1 : Hp} {Q : VK} {D : Ends} {v x y : V} {ta tb tc te : TE} {t u c : TT} {s1 s2 ts : TS} {r r' : R2} {K : PySem.W.Frag} {p a C dx : Addr} {xs ys vs : List V} {i j k : Int} {b b' : Bool} {A : TA}
/-! statements -/
theorem r_start {N : List Str} (e : start N vs = σ') (q : ts D σ' H) : ts D (start N vs) H := e ▸ q
theorem r_seq (h : s1 { D with nx := s2 D } σ H) : tSeq s1 s2 D σ H := h
theorem r_next (h : D.nx σ H) : tNext D σ H := h
theorem r_drop (h : te σ H fun _ H1 => D.nx σ H1) : tDrop te D σ H := h
theorem r_ret (h : te σ H D.rt) : tRet te D σ H := h
theorem r_retN (h : D.rt .non H) : tRetN D σ H := h
theorem r_ifS (h : c σ H fun b H1 => if b = true then s1 D σ H1 else s2 D σ H1) : tIfS c s1 s2 D σ H := h
theorem r_asg {g : TG} (h : te σ H fun x H1 => g x σ H1 D.nx) : tAsg te g D σ H := h
inductive SetAt {α : Type} : List α → Nat → α → List α → Prop
  | zero {x v : α} {l : List α} : SetAt (x :: l) 0 v (v :: l)
  | succ {x v : α} {l l' : List α} {n : Nat} (h : SetAt l n v l') : SetAt (x :: l) (n + 1) v (x :: l')
theorem SetAt.eq {α : Type} {l l' : List α} {n : Nat} {v : α} (h : SetAt l n v l') : l.set n v = l' := by
  induction h with
  | zero => rfl
  | succ _ ih => rw [List.set_cons_succ, ih]
theorem SetAt.lt {α : Type} {l l' : List α} {n : Nat} {v : α} (h : SetAt l n v l') : n < l.length := by
  induction h with
  | zero => exact Nat.succ_pos _
  | succ _ ih => exact Nat.succ_lt_succ ih
theorem r_name {n : Nat} {R : L2.St → Hp → Prop} (h : SetAt σ n (some v) σ') (q : R σ' H) : gName n v σ H R := by
  show R (σ.set n (some v)) H
  rw [h.eq]; exact q
theorem r_gsub {to ti : TE} {tset : TSet} {R : L2.St → Hp → Prop} (h : to σ H fun o H1 => ti σ H1 fun i H2 => tset o i v H2 fun H3 => R σ H3) : gSub to ti tset v σ H R := h
theorem ixN_nat {m n : Nat} (h : n < m) : ixN m (Int.ofNat n) = some n := by
  show ixN m (n : Int) = some n
  unfold ixN
  rw [if_pos (by omega), if_pos (by omega)]; simp
theorem r_setL {n : Nat} {R : Hp → Prop} (hp : H p = some (.lst xs)) (hi : i = Int.ofNat n) (hs : SetAt xs n v ys) (q : R (upd H p (.lst ys))) : rSetL (.ref p) (.int i) v H R := ⟨p, xs, i, n, rfl, rfl, hp, by rw [hi]; exact ixN_nat hs.lt, by rw [hs.eq]; exact q⟩
theorem r_gtup {n : Nat} {g : TGs} {R : L2.St → Hp → Prop} (h : SqT K H p xs) (e : xs.length = n) (q : g xs σ H R) : gTup K n g (.ref p) σ H R := ⟨p, xs, rfl, h, e, q⟩
theorem r_gnil {R : L2.St → Hp → Prop} (q : R σ H) : gNil [] σ H R := ⟨rfl, q⟩
theorem r_gcons {g : TG} {g' : TGs} {R : L2.St → Hp → Prop} (q : g v σ H fun σ' H' => g' vs σ' H' R) : gCons g g' (v :: vs) σ H R := ⟨v, vs, rfl, q⟩
/-! expressions -/
theorem r_var {n : Nat} (h : σ[n]? = some (some v)) (q : Q v H) : tVar n σ H Q := ⟨v, h, q⟩
theorem r_c (q : Q v H) : tC v σ H Q := q
theorem r_op (h : ta σ H fun x H1 => tb σ H1 fun y H2 => r x y H2 Q) : tOp r ta tb σ H Q := h
theorem r_un {r : V → Hp → VK → Prop} (h : ta σ H fun x H1 => r x H1 Q) : tUn r ta σ H Q := h
theorem r_rI0 {g : Int → Int → V} (q : Q (g i j) H) : rI0 g (.int i) (.int j) H Q := ⟨i, j, rfl, rfl, q⟩
theorem r_rI {Cc : Int → Int → Prop} {g : Int → Int → V} (hc : Cc i j) (q : Q (g i j) H) : rI Cc g (.int i) (.int j) H Q := ⟨i, j, rfl, rfl, hc, q⟩
theorem r_rU {g : Int → V} (q : Q (g i) H) : rU g (.int i) H Q := ⟨i, rfl, q⟩
theorem r_eqI (q : Q (.bl (decide (i = j))) H) : rEq (.int i) (.int j) H Q := ⟨rfl, by
  have e : decide (V.int i = V.int j) = decide (i = j) := by rw [Bool.eq_iff_iff]; simp
  rw [e]; exact q⟩
theorem r_neI (q : Q (.bl (!decide (i = j))) H) : rNe (.int i) (.int j) H Q := ⟨rfl, by
  have e : decide (V.int i = V.int j) = decide (i = j) := by rw [Bool.eq_iff_iff]; simp
  rw [e]; exact q⟩
theorem r_eqS {m n : Str} (q : Q (.bl (decide (m = n))) H) : rEq (.str m) (.str n) H Q := ⟨rfl, by
  have e : decide (V.str m = V.str n) = decide (m = n) := by rw [Bool.eq_iff_iff]; simp
  rw [e]; exact q⟩
theorem r_neS {m n : Str} (q : Q (.bl (!decide (m = n))) H) : rNe (.str m) (.str n) H Q := ⟨rfl, by
  have e : decide (V.str m = V.str n) = decide (m = n) := by rw [Bool.eq_iff_iff]; simp
  rw [e]; exact q⟩
theorem r_test {t : TE} {R : Bool → Hp → Prop} (h : t σ H fun x H' => ∃ k, x = .bl k ∧ R k H') : tTest t σ H R := h
theorem r_B {t : TE} {R : Bool → Hp → Prop} (h : t σ H fun x H' => ∃ k, x = .bl k ∧ R k H') : tB t σ H R := h
theorem r_bl {R : Bool → Prop} (q : R b) : ∃ k, V.bl b = .bl k ∧ R k := ⟨b, rfl, q⟩
theorem r_and {R : Bool → Hp → Prop} (h : t σ H fun c H1 => if c = true then u σ H1 R else R false H1) : tAnd t u σ H R := h
theorem r_or {R : Bool → Hp → Prop} (h : t σ H fun c H1 => if c = true then R true H1 else u σ H1 R) : tOr t u σ H R := h
theorem r_not {R : Bool → Hp → Prop} (h : t σ H fun c H1 => R (!c) H1) : tNot t σ H R := h
theorem r_andV (h : ta σ H fun x H1 => ∃ c, x = .bl c ∧ if c = true then tb σ H1 Q else Q (.bl false) H1) : tAndV ta tb σ H Q := h
theorem r_orV (h : ta σ H fun x H1 => ∃ c, x = .bl c ∧ if c = true then Q (.bl true) H1 else tb σ H1 Q) : tOrV ta tb σ H Q := h
theorem r_notV (h : ta σ H fun x H1 => ∃ c, x = .bl c ∧ Q (.bl (!c)) H1) : tNotV ta σ H Q := h
theorem r_ifE (h : t σ H fun c H1 => if c = true then ta σ H1 Q else tb σ H1 Q) : tIf t ta tb σ H Q := h
theorem r_chain (h : ta σ H fun x H1 => tb σ H1 fun y H2 => r x y H2 fun z H3 => ∃ k, z = .bl k ∧ if k = true then tc σ H3 (fun w H4 => r' y w H4 Q) else Q (.bl false) H3) : tChain r r' ta tb tc σ H Q := h
theorem r_ixL (hp : SqL K H p xs) (e : atI xs i = some v) (q : Q v H) : rIxL K (.ref p) (.int i) H Q := ⟨p, xs, i, v, rfl, rfl, hp, e, q⟩
theorem r_ixT (hp : SqT K H p xs) (e : atI xs i = some v) (q : Q v H) : rIxT K (.ref p) (.int i) H Q := ⟨p, xs, i, v, rfl, rfl, hp, e, q⟩
theorem r_cb {rr : List V → Hp → VK → Prop} (h : A σ H fun vs H1 => rr vs H1 Q) : tCB rr A σ H Q := h
theorem r_nil {R : List V → Hp → Prop} (q : R [] H) : tNil σ H R := q
theorem r_cons {R : List V → Hp → Prop} (h : ta σ H fun x H1 => A σ H1 fun xs H2 => R (x :: xs) H2) : tCons ta A σ H R := h
theorem r_tup (h : A σ H fun xs H1 => xs.length ≤ sizeLine ∧ ∀ p, H1 p = none → Q (.ref p) (upd H1 p (.tup xs))) : tTup A σ H Q := h
theorem r_lst (h : A σ H fun xs H1 => xs.length ≤ sizeLine ∧ ∀ p, H1 p = none → Q (.ref p) (upd H1 p (.lst xs))) : tLst A σ H Q := h
def rLen (K : PySem.W.Frag) : List V → Hp → VK → Prop := fun xs H Q => ∃ p ys, xs = [.ref p] ∧ (SqL K H p ys ∨ SqT K H p ys) ∧ Q (.int ys.length) H
theorem r_cbLen (h : A σ H fun vs H1 => rLen K vs H1 Q) : tCB (fun xs H Q => ∃ p ys, xs = [V.ref p] ∧ (SqL K H p ys ∨ SqT K H p ys) ∧ Q (V.int ys.length) H) A σ H Q := h
theorem r_len (hq : SqL K H p ys ∨ SqT K H p ys) (q : Q (.int ys.length) H) : rLen K [.ref p] H Q := ⟨p, ys, rfl, hq, q⟩
def rInt1 : List V → Hp → VK → Prop := fun xs H Q => (∃ i, xs = [.int i] ∧ Q (.int i) H) ∨ ∃ k, xs = [.bl k] ∧ Q (.int (if k then 1 else 0)) H
theorem r_cbInt (h : A σ H fun vs H1 => rInt1 vs H1 Q) : tCB (fun xs H Q => (∃ i, xs = [V.int i] ∧ Q (V.int i) H) ∨ ∃ k, xs = [V.bl k] ∧ Q (V.int (if k then 1 else 0)) H) A σ H Q := h
theorem r_int1 (q : Q (.int i) H) : rInt1 [.int i] H Q := .inl ⟨i, rfl, q⟩
theorem r_intB (q : Q (.int (if b then 1 else 0)) H) : rInt1 [.bl b] H Q := .inr ⟨b, rfl, q⟩
def rListOf (K : PySem.W.Frag) : List V → Hp → VK → Prop := fun xs H Q => ∃ p ys, xs = [.ref p] ∧ (SqL K H p ys ∨ SqT K H p ys) ∧ ∀ l, H l = none → Q (.ref l) (upd H l (.lst ys))
theorem r_cbList (h : A σ H fun vs H1 => rListOf K vs H1 Q) : tCB (fun xs H Q => ∃ p ys, xs = [V.ref p] ∧ (SqL K H p ys ∨ SqT K H p ys) ∧ ∀ l, H l = none → Q (.ref l) (upd H l (.lst ys))) A σ H Q := h
theorem r_listOf (hq : SqL K H p ys ∨ SqT K H p ys) (q : ∀ l, H l = none → Q (.ref l) (upd H l (.lst ys))) : rListOf K [.ref p] H Q := ⟨p, ys, rfl, hq, q⟩
def rTupOf (K : PySem.W.Frag) : List V → Hp → VK → Prop := fun xs H Q => ∃ p ys, xs = [.ref p] ∧ ((SqL K H p ys ∧ ∀ l, H l = none → Q (.ref l) (upd H l (.tup ys))) ∨ (SqT K H p ys ∧ Q (.ref p) H))
theorem r_cbTup (h : A σ H fun vs H1 => rTupOf K vs H1 Q) : tCB (fun xs H Q => ∃ p ys, xs = [V.ref p] ∧ ((SqL K H p ys ∧ ∀ l, H l = none → Q (.ref l) (upd H l (.tup ys))) ∨ (SqT K H p ys ∧ Q (.ref p) H))) A σ H Q := h
theorem r_tupOfL (hq : SqL K H p ys) (q : ∀ l, H l = none → Q (.ref l) (upd H l (.tup ys))) : rTupOf K [.ref p] H Q := ⟨p, ys, rfl, .inl ⟨hq, q⟩⟩
theorem r_tupOfT (hq : SqT K H p ys) (q : Q (.ref p) H) : rTupOf K [.ref p] H Q := ⟨p, ys, rfl, .inr ⟨hq, q⟩⟩
theorem r_tupAny (hl : H p = some (.lst ys) ∨ H p = some (.tup ys)) (q : ∀ l H1, (∀ b o, H b = some o → H1 b = some o) → H1 l = some (.tup ys) → Q (.ref l) H1) : rTupOf K [.ref p] H Q := by
  rcases hl with h | h
  · exact r_tupOfL (SqL.of h) fun l hn => q l _ (fun b o e => by rw [upd_ne (ne_of_none e hn)]; exact e) upd_same
  · exact r_tupOfT (SqT.of h) (q p H (fun _ _ e => e) h)
theorem at_ints {ns : List Int} {z : Int} (h0 : 0 ≤ z) (h1 : z < (ns.map V.int).length) : atI (ns.map V.int) z = some (V.int (ns.getD z.toNat 0)) := by
  rw [List.length_map] at h1
  have e : z = ((z.toNat : Nat) : Int) := by omega
  have h : z.toNat < ns.length := by omega
  rw [e]
  refine atI_nat ?_
  rw [List.getElem?_map, List.getElem?_eq_getElem h, Int.toNat_natCast, List.getD_eq_getElem?_getD, List.getElem?_eq_getElem h]; rfl
def isIntV : V → Bool
  | .int _ => true
  | _ => false
theorem all_get {n : Nat} (h : xs.all isIntV = true) (e : xs[n]? = some v) : ∃ z : Int, v = .int z := by
  have hb := List.all_eq_true.mp h _ (List.mem_of_getElem? e)
  cases v with
  | int z => exact ⟨z, rfl⟩
  | _ => exact absurd hb (by simp [isIntV])
theorem all_rg {a b : Int} : (rgV a b).all isIntV = true := by
  unfold rgV
  rw [List.all_map]
  exact List.all_eq_true.mpr fun _ _ => rfl
theorem r_ixMenu (h : H p = some (.lst xs)) (hall : xs.all isIntV = true) (h0 : 0 ≤ i) (h1 : i < xs.length) (q : ∀ z : Int, V.int z ∈ xs → Q (.int z) H) : rIxL K (.ref p) (.int i) H Q := by
  have hlt : i.toNat < xs.length := by omega
  have hm := List.getElem_mem hlt
  have hb := List.all_eq_true.mp hall _ hm
  have e : i = ((i.toNat : Nat) : Int) := by omega
  cases hx : xs[i.toNat] with
  | int z => exact r_ixL (SqL.of h) (by rw [e]; exact atI_nat (by rw [List.getElem?_eq_getElem (by simpa using hlt)]; simpa using hx)) (q z (hx ▸ hm))
  | _ => rw [hx] at hb; exact absurd hb (by simp [isIntV])
/-! branches -/
theorem r_ite {cc : Prop} [Decidable cc] {X Y : Prop} (h1 : cc → X) (h2 : ¬ cc → Y) : if decide cc = true then X else Y := by
  by_cases h : cc
  · rw [decide_eq_true h]; exact iteT (h1 h)
  · rw [decide_eq_false h]; exact iteF (h2 h)
theorem r_iteN {cc : Prop} [Decidable cc] {X Y : Prop} (h1 : ¬ cc → X) (h2 : cc → Y) : if (!decide cc) = true then X else Y := by
  by_cases h : cc
  · rw [decide_eq_true h]; exact iteF (h2 h)
  · rw [decide_eq_false h]; exact iteT (h1 h)
theorem r_yes {cc : Prop} [Decidable cc] {X Y : Prop} (h : cc) (h1 : X) : if decide cc = true then X else Y := by rw [decide_eq_true h]; exact iteT h1
theorem r_no {cc : Prop} [Decidable cc] {X Y : Prop} (h : ¬ cc) (h1 : Y) : if decide cc = true then X else Y := by rw [decide_eq_false h]; exact iteF h1
theorem r_yesN {cc : Prop} [Decidable cc] {X Y : Prop} (h : ¬ cc) (h1 : X) : if (!decide cc) = true then X else Y := by rw [decide_eq_false h]; exact iteT h1
theorem r_noN {cc : Prop} [Decidable cc] {X Y : Prop} (h : cc) (h1 : Y) : if (!decide cc) = true then X else Y := by rw [decide_eq_true h]; exact iteF h1
theorem r_iteNF {X Y : Prop} (h1 : X) : if (!false) = true then X else Y := iteT h1
theorem r_iteNT {X Y : Prop} (h1 : Y) : if (!true) = true then X else Y := iteF h1
def rFld (K : PySem.W.Frag) (f : Str) : V → Hp → VK → Prop := fun x H1 Q => ∃ a C dx fs v, x = .ref a ∧ H1 a = some (.ins C dx fs) ∧ Cls K C ∧ NoAttr K C f ∧ fs.lookup f = some v ∧ Q v H1
theorem r_tfld {f : Str} (h : ta σ H fun x H1 => rFld K f x H1 Q) : tFld K ta f σ H Q := h
theorem r_fld {f : Str} {fs : List (Str × V)} (e : H a = some (.ins C dx fs)) (c : Cls K C) (n : NoAttr K C f) (l : fs.lookup f = some v) (q : Q v H) : rFld K f (.ref a) H Q := ⟨a, C, dx, fs, v, rfl, e, c, n, l, q⟩
def rSFld (K : PySem.W.Frag) (f : Str) (y : V) : V → Hp → (Hp → Prop) → Prop := fun x H2 R => ∃ a C dx fs, x = .ref a ∧ H2 a = some (.ins C dx fs) ∧ Cls K C ∧ NoAttr K C f ∧ fs.length < 1000 ∧ R (upd H2 a (.ins C dx (putF f y fs)))
theorem r_sfld {f : Str} {tv : TE} (h : tv σ H fun y H1 => ta σ H1 fun x H2 => rSFld K f y x H2 (D.nx σ)) : sFld K ta tv f D σ H := h
theorem r_sf {f : Str} {fs gs : List (Str × V)} {R : Hp → Prop} (e : H a = some (.ins C dx fs)) (c : Cls K C) (n : NoAttr K C f) (l : fs.length < 1000) (g : putF f y fs = gs) (q : R (upd H a (.ins C dx gs))) : rSFld K f y (.ref a) H R := ⟨a, C, dx, fs, rfl, e, c, n, l, by rw [g]; exact q⟩
def rCV (K : PySem.W.Frag) (f : Str) : V → Hp → VK → Prop := fun x H1 Q => ∃ C mc v u, x = .ref C ∧ ClX.CRead K C mc ∧ ClX.CVal K C mc f v u ∧ Q v H1
theorem r_tcval {f : Str} (h : ta σ H fun x H1 => rCV K f x H1 Q) : ClX.tCVal K ta f σ H Q := h
theorem r_cv {f : Str} {mc : Value} {u : Value} (r : ClX.CRead K C mc) (k : ClX.CVal K C mc f v u) (q : Q v H) : rCV K f (.ref C) H Q := ⟨C, mc, v, u, rfl, r, k, q⟩
theorem r_forT {n : Nat} {g : TG} {tb : TS} (ha : σ[n]? = some (some (.ref a))) (hS : SqT K H a xs) (Pv : Nat → L2.St → Hp → Prop) (h0 : Pv 0 σ H) (hl : ∀ i σ H, i ≤ xs.length → Pv i σ H → SqT K H a xs)
    (hs : ∀ i x σ H, xs[i]? = some x → Pv i σ H → g x σ H fun σ2 H2 => tb { D with nx := Pv (i + 1), ct := Pv (i + 1), bk := D.nx } σ2 H2) (hd : ∀ σ H, Pv xs.length σ H → D.nx σ H) : tFor (iTup K (tVar n)) g tb D σ H :=
  ⟨_, ha, a, rfl, ⟨_, hS⟩, for_tup Pv h0 hl hs hd⟩
theorem r_isiII (q : Q (.bl true) H) : rIsi K [.int i, .ty "int"] H Q := ⟨_, _, _, _, true, rfl, .ty _, .base (.int _), kit_ty (by decide +kernel), q⟩
theorem r_isiIB (q : Q (.bl false) H) : rIsi K [.int i, .ty "bool"] H Q := ⟨_, _, _, _, false, rfl, .ty _, .base (.int _), kit_ty (by decide +kernel), q⟩
theorem r_isiTT (h : H a = some (.tup xs)) (q : Q (.bl true) H) : rIsi K [.ref a, .ty "tuple"] H Q := ⟨_, _, _, _, true, rfl, .ty _, .base (.tup h), kit_ty (by decide +kernel), q⟩
theorem upd_at {q : Addr} {o u : HO} (h : q ≠ p) (e : H q = some u) : upd H p o q = some u := by rw [upd_ne h]; exact e
/-! tuples and lists of ints compared -/
theorem dp_ints : ∀ ns : List Int, DpAll K H (ns.map V.int) (ns.map PyData.int)
  | [] => .nil
  | n :: r => .cons (.int n) (dp_ints r)
theorem eqv_ints : ∀ ns ms : List Int, PyData.eqvAll (ns.map PyData.int) (ms.map PyData.int) = decide (ns = ms)
  | [], [] => rfl
  | [], _ :: _ => rfl
  | _ :: _, [] => rfl
  | n :: r, m :: q => by
    show (PyData.eqv (.int n) (.int m) && PyData.eqvAll (r.map PyData.int) (q.map PyData.int)) = _
    rw [eqv_ints r q]
    show ((n == m) && decide (r = q)) = _
    rw [Bool.eq_iff_iff]; simp
theorem can_ints : ∀ ns : List Int, PyData.canLayAll0 (ns.map PyData.int) = true
  | [] => rfl
  | _ :: r => can_ints r
theorem depth_ints : ∀ ns : List Int, PyData.depthAll (ns.map PyData.int) = 0
  | [] => rfl
  | _ :: r => by show max 0 (PyData.depthAll (r.map PyData.int)) = 0; rw [depth_ints r]; rfl
theorem shaped_ints (ns : List Int) : SeqAt.shaped (.tuple (ns.map PyData.int)) = true := by
  show (PyData.canLayAll0 (ns.map PyData.int) && decide (PyData.depthAll (ns.map PyData.int) + 1 ≤ 64)) = true
  rw [can_ints, depth_ints]; rfl
theorem shaped_intsL (ns : List Int) : SeqAt.shaped (.list (ns.map PyData.int)) = true := by
  show (PyData.canLayAll0 (ns.map PyData.int) && decide (PyData.depthAll (ns.map PyData.int) + 1 ≤ 64)) = true
  rw [can_ints, depth_ints]; rfl
theorem r_eqTT {q : Addr} {ns ms : List Int} (h1 : SqT K H p (ns.map V.int)) (h2 : SqT K H q (ms.map V.int)) (z : Q (.bl (decide (ns = ms))) H) : rEqD K (.ref p) (.ref q) H Q :=
  ⟨_, _, .tup h1 (dp_ints ns), .tup h2 (dp_ints ms), shaped_ints ns, shaped_ints ms, by show Q (.bl (PyData.eqvAll _ _)) H; rw [eqv_ints]; exact z⟩
theorem r_neTT {q : Addr} {ns ms : List Int} (h1 : SqT K H p (ns.map V.int)) (h2 : SqT K H q (ms.map V.int)) (z : Q (.bl (!decide (ns = ms))) H) : rNeD K (.ref p) (.ref q) H Q :=
  ⟨_, _, .tup h1 (dp_ints ns), .tup h2 (dp_ints ms), shaped_ints ns, shaped_ints ms, by show Q (.bl (!PyData.eqvAll _ _)) H; rw [eqv_ints]; exact z⟩
theorem r_eqLL {q : Addr} {ns ms : List Int} (h1 : SqL K H p (ns.map V.int)) (h2 : SqL K H q (ms.map V.int)) (z : Q (.bl (decide (ns = ms))) H) : rEqD K (.ref p) (.ref q) H Q :=
  ⟨_, _, .lst h1 (dp_ints ns), .lst h2 (dp_ints ms), shaped_intsL ns, shaped_intsL ms, by show Q (.bl (PyData.eqvAll _ _)) H; rw [eqv_ints]; exact z⟩
theorem r_neLL {q : Addr} {ns ms : List Int} (h1 : SqL K H p (ns.map V.int)) (h2 : SqL K H q (ms.map V.int)) (z : Q (.bl (!decide (ns = ms))) H) : rNeD K (.ref p) (.ref q) H Q :=
  ⟨_, _, .lst h1 (dp_ints ns), .lst h2 (dp_ints ms), shaped_intsL ns, shaped_intsL ms, by show Q (.bl (!PyData.eqvAll _ _)) H; rw [eqv_ints]; exact z⟩
theorem r_neNil {q : Addr} (h1 : SqL K H p []) (h2 : SqL K H q []) (z : Q (.bl false) H) : rNeD K (.ref p) (.ref q) H Q := r_neLL (ns := []) (ms := []) h1 h2 (by simpa using z)
theorem r_eqNil {q : Addr} (h1 : SqL K H p []) (h2 : SqL K H q []) (z : Q (.bl true) H) : rEqD K (.ref p) (.ref q) H Q := r_eqLL (ns := []) (ms := []) h1 h2 (by simpa using z)
/-! slices of tuples of ints, sums of them -/
theorem r_tsl {r : V → Option Int → Option Int → Hp → VK → Prop} {tl th : TO} (h : te σ H fun x H1 => tl σ H1 fun l H2 => th σ H2 fun w H3 => r x l w H3 Q) : tSl r te tl th σ H Q := h
theorem r_noPart {R : Option Int → Hp → Prop} (q : R none H) : tNoPart σ H R := q
def rPart : V → Hp → (Option Int → Hp → Prop) → Prop := fun x H1 R => ∃ i, x = .int i ∧ R (some i) H1
theorem r_tpart {R : Option Int → Hp → Prop} (h : ta σ H fun x H1 => rPart x H1 R) : tPart ta σ H R := h
theorem r_part {R : Option Int → Hp → Prop} (q : R (some i) H) : rPart (.int i) H R := ⟨i, rfl, q⟩
theorem r_slAny {lo hi : Option Int} (h : H a = some (.tup xs)) (q : ∀ p H', (∀ b o, H b = some o → H' b = some o) → H' p = some (.tup (cutV xs lo hi)) → Q (.ref p) H') : rSlA K (.ref a) lo hi H Q :=
  ⟨a, xs, rfl, SqT.of h, fun e => q a H (fun _ _ e => e) (by
    rw [h]
    unfold cutV
    rw [e.1, e.2, List.drop_zero, Nat.sub_zero, List.take_length]), fun _ p hp => q p _ (fun b o e => by rw [upd_ne (ne_of_none e hp)]; exact e) upd_same⟩
theorem cut_take {ns : List Int} {j : Nat} (h : j ≤ ns.length) : cutV (ns.map V.int) none (some (j : Int)) = (ns.take j).map V.int := by
  unfold cutV
  rw [HT.sIx_none, HT.sIx_nat, List.drop_zero, Nat.sub_zero, List.length_map, Nat.min_eq_left h, List.map_take]
theorem cut_drop {ns : List Int} {j : Nat} (h : j ≤ ns.length) : cutV (ns.map V.int) (some (j : Int)) none = (ns.drop j).map V.int := by
  unfold cutV
  rw [HT.sIx_none, HT.sIx_nat, List.length_map, Nat.min_eq_left h, List.map_drop]
  exact List.take_of_length_le (by simp)
theorem r_catI {b : Addr} {ns ms : List Int} (h1 : H a = some (.tup (ns.map V.int))) (h2 : H b = some (.tup (ms.map V.int))) (hz : ns.length + ms.length ≤ 1000)
    (q : ∀ p H', (∀ b o, H b = some o → H' b = some o) → H' p = some (.tup ((ns ++ ms).map V.int)) → Q (.ref p) H') : rCatA K (.ref a) (.ref b) H Q := by
  refine ⟨a, b, _, _, rfl, rfl, SqT.of h1, SqT.of h2, by rw [List.length_map, List.length_map]; exact Nat.le_trans hz (by decide), fun e => ?_, fun _ e => ?_, fun _ _ p hp => ?_⟩
  · have e' : ns = [] := List.map_eq_nil_iff.mp e
    subst e'
    exact q b H (fun _ _ e => e) h2
  · have e' : ms = [] := List.map_eq_nil_iff.mp e
    subst e'
    exact q a H (fun _ _ e => e) (by rw [List.append_nil]; exact h1)
  · refine q p _ (fun c o e => by rw [upd_ne (ne_of_none e hp)]; exact e) ?_
    rw [upd_same, List.map_append]
/-! stores at open places, lists joined, loops over what an expression gives -/
theorem r_setI {ns : List Int} {w : Int} {R : Hp → Prop} (hp : H p = some (.lst (ns.map V.int))) (h0 : 0 ≤ i) (h1 : i < ns.length) (q : R (upd H p (.lst ((ns.set i.toNat w).map V.int)))) : rSetL (.ref p) (.int i) (.int w) H R :=
  ⟨p, _, i, i.toNat, rfl, rfl, hp, by
    have e : i = Int.ofNat i.toNat := by show i = ((i.toNat : Nat) : Int); omega
    rw [List.length_map]
    conv => lhs; rw [e]
    exact ixN_nat (by omega), by rw [← List.map_set]; exact q⟩
theorem r_cat {b : Addr} (h1 : H a = some (.lst xs)) (h2 : H b = some (.lst ys)) (hz : xs.length + ys.length ≤ 1000) (q : ∀ p, H p = none → Q (.ref p) (upd H p (.lst (xs ++ ys)))) : rCat (.ref a) (.ref b) H Q :=
  ⟨a, b, xs, ys, rfl, rfl, h1, h2, Nat.le_trans hz (by decide), q⟩
def rLstRg : V → Hp → VK → Prop := fun x H1 Q => ∃ n, x = .int n ∧ RgOk 0 n ∧ ∀ q, H1 q = none → Q (.ref q) (upd H1 q (.lst (rgV 0 n)))
theorem r_tlstRg (h : ta σ H fun x H1 => rLstRg x H1 Q) : tLstRg (tRg1 ta) σ H Q := h
theorem r_lstRg (h0 : 0 ≤ i) (h1 : i ≤ 1000) (q : ∀ l, H l = none → Q (.ref l) (upd H l (.lst (rgV 0 i)))) : rLstRg (.int i) H Q := ⟨i, rfl, RgOk.of_le (by omega) (by omega) (by omega) (by omega), q⟩
theorem rg_int {n : Int} {j : Nat} {x : V} (h : (rgV 0 n)[j]? = some x) : ∃ z : Int, x = V.int z := by
  unfold rgV at h
  rw [List.getElem?_map] at h
  cases e : (List.range (n - 0).toNat)[j]? with
  | none => rw [e] at h; cases h
  | some k => rw [e] at h; exact ⟨_, (Option.some.inj h).symm⟩
def rForT (K : PySem.W.Frag) (g : TG) (tb : TS) (D : Ends) (σ : L2.St) : V → Hp → Prop := fun x H1 => ∃ a, x = .ref a ∧ (∃ xs, SqT K H1 a xs) ∧ ∃ W : Nat → Nat → L2.St → Hp → Prop, (∃ m, W 0 m σ H1) ∧ ∀ i m σ H, W i m σ H →
      ((Itt K a).stop i H ∧ D.nx σ H) ∨ ((Itt K a).go i H ∧ ∃ N : L2.St → Hp → Prop, (∀ σ' H', N σ' H' → ∃ m', m' < m ∧ W (i + 1) m' σ' H') ∧ ∀ x H', (Itt K a).yld i H x H' → g x σ H' fun σ2 H2 => tb { D with nx := N, ct := N, bk := D.nx } σ2 H2)
theorem r_forTe {g : TG} {tb : TS} (h : te σ H fun x H1 => rForT K g tb D σ x H1) : tFor (iTup K te) g tb D σ H := h
theorem r_forTx {g : TG} {tb : TS} (hS : SqT K H a xs) (Pv : Nat → L2.St → Hp → Prop) (h0 : Pv 0 σ H) (hl : ∀ i σ H, i ≤ xs.length → Pv i σ H → SqT K H a xs)
    (hs : ∀ i x σ H, xs[i]? = some x → Pv i σ H → g x σ H fun σ2 H2 => tb { D with nx := Pv (i + 1), ct := Pv (i + 1), bk := D.nx } σ2 H2) (hd : ∀ σ H, Pv xs.length σ H → D.nx σ H) : rForT K g tb D σ (.ref a) H :=
  ⟨a, rfl, ⟨_, hS⟩, for_tup Pv h0 hl hs hd⟩
def rForL (K : PySem.W.Frag) (g : TG) (tb : TS) (D : Ends) (σ : L2.St) : V → Hp → Prop := fun x H1 => ∃ a, x = .ref a ∧ (∃ xs, SqL K H1 a xs) ∧ ∃ W : Nat → Nat → L2.St → Hp → Prop, (∃ m, W 0 m σ H1) ∧ ∀ i m σ H, W i m σ H →
      ((Itl K a).stop i H ∧ D.nx σ H) ∨ ((Itl K a).go i H ∧ ∃ N : L2.St → Hp → Prop, (∀ σ' H', N σ' H' → ∃ m', m' < m ∧ W (i + 1) m' σ' H') ∧ ∀ x H', (Itl K a).yld i H x H' → g x σ H' fun σ2 H2 => tb { D with nx := N, ct := N, bk := D.nx } σ2 H2)
theorem r_forLe {g : TG} {tb : TS} (h : te σ H fun x H1 => rForL K g tb D σ x H1) : tFor (iList K te) g tb D σ H := h
theorem r_forLx {g : TG} {tb : TS} (hS : SqL K H a xs) (Pv : Nat → L2.St → Hp → Prop) (h0 : Pv 0 σ H) (hl : ∀ i σ H, i ≤ xs.length → Pv i σ H → SqL K H a xs)
    (hs : ∀ i x σ H, xs[i]? = some x → Pv i σ H → g x σ H fun σ2 H2 => tb { D with nx := Pv (i + 1), ct := Pv (i + 1), bk := D.nx } σ2 H2) (hd : ∀ σ H, Pv xs.length σ H → D.nx σ H) : rForL K g tb D σ (.ref a) H :=
  ⟨a, rfl, ⟨_, hS⟩, for_list Pv h0 hl hs hd⟩
theorem r_tyes {R : Bool → Hp → Prop} (q : R true H) : tYes σ H R := q
theorem r_iteB {X Y : Prop} (h1 : b = true → X) (h2 : b = false → Y) : if b = true then X else Y := by
  cases b
  · exact iteF (h2 rfl)
  · exact iteT (h1 rfl)
/-! calls -/
theorem r_tcall {sp : Sp} {dvs : List V} {E : XK} (h : A σ H fun vs H1 => sp (vs ++ dvs) H1 Q E) : tCall sp dvs E A σ H Q := h
theorem r_tcallS {sp : Sp} {E : L2.St → XK} (h : A σ H fun vs H1 => sp vs H1 Q (E σ)) : tCallS sp E A σ H Q := h
def rMake (C : Addr) (sp : Sp) (dvs : List V) (E : XK) : List V → Hp → VK → Prop := fun vs H1 Q => ∀ x dx, H1 x = none → H1 dx = none → dx ≠ x →
  sp (.ref x :: (vs ++ dvs)) (upd (upd H1 dx (.own x)) x (.ins C dx [])) (fun v H2 => v = .non ∧ Q (.ref x) H2) E
theorem r_tmake {sp : Sp} {dvs : List V} {E : XK} (h : A σ H fun vs H1 => rMake C sp dvs E vs H1 Q) : tMake C sp dvs E A σ H Q := h
/-! a list's append -/
def rBM (K : PySem.W.Frag) (T : String) (r : V → List V → Hp → VK → Prop) (A : TA) (σ : L2.St) : V → Hp → VK → Prop := fun x H1 Q => tyV K T x H1 ∧ A σ H1 fun xs H2 => r x xs H2 Q
theorem r_tbm {T : String} {r : V → List V → Hp → VK → Prop} (h : ta σ H fun x H1 => rBM K T r A σ x H1 Q) : tBM K T r ta A σ H Q := h
theorem r_bmL {r : V → List V → Hp → VK → Prop} (h : H a = some (.lst xs)) (q : A σ H fun ys H2 => r (.ref a) ys H2 Q) : rBM K "list" r A σ (.ref a) H Q := ⟨Or.inl ⟨rfl, _, SqL.of h⟩, q⟩
theorem r_app (h : H a = some (.lst xs)) (z : xs.length ≤ 1000) (q : Q .non (upd H a (.lst (xs ++ [y])))) : rAppend (.ref a) [y] H Q := ⟨a, xs, y, rfl, rfl, h, Nat.lt_of_le_of_lt z (by decide), q⟩
theorem map_app (xs : List Int) (y : Int) : xs.map V.int ++ [V.int y] = (xs ++ [y]).map V.int := by simp
theorem ne_new {b : Addr} {o : HO} (h' : H b = none) (h : H a = some o) : a ≠ b := ne_of_none h h'
theorem r_new {R : Addr → Hp → Prop} {o : HO} (z : xs.length ≤ 1000) (q : ∀ l, H l = none → R l (upd H l o)) : xs.length ≤ sizeLine ∧ ∀ l, H l = none → R l (upd H l o) := ⟨Nat.le_trans z (by decide), q⟩
theorem upd_new {q l : Addr} {o u : HO} (hl : H l = none) (e : H q = some u) : upd H l o q = some u := by rw [upd_ne (ne_of_none e hl)]; exact e
theorem keep_at {H' : Hp} {l : Addr} {o : HO} (hk : ∀ b, b ≠ p → H' b = H b) (ne : l ≠ p) (h : H l = some o) : H' l = some o := (hk l ne).trans h
theorem keep_ext {H' : Hp} {l : Addr} {o : HO} (hk : ∀ b o, b ≠ p → H b = some o → H' b = some o) (ne : l ≠ p) (h : H l = some o) : H' l = some o := hk l o ne h
theorem keep_all {H' : Hp} {l : Addr} {o : HO} (hk : ∀ b o, H b = some o → H' b = some o) (h : H l = some o) : H' l = some o := hk l o h
end
end RD

end
section
namespace OWN
open PySem PySem.W PySem.Calls PyProof.Rows Builtin
open Sem (wp)
theorem mul_ref (a : Int) (t : Tok) (x C dx : Addr) :
    Meets (Builtin.«int.__mul__» ⟨[.int a t, .ref x], []⟩) (fun _ R s => s.heap.get? x = some (instObj C dx) ∧ R (.ok (.ret Value.notImplemented)) s) :=
  .of_wp fun prog w A R s h => by obtain ⟨hp, g, d, tk, os⟩ := s; obtain ⟨hl, h⟩ := h; unfold instObj at hl; wp_walk; exact ⟨_, rfl, h⟩
section
variable {prog : Program} {w : World} {A : Around} {E : Value → Shared → Prop} {s : Shared} {K : Frag} {x C L f f' : Addr} {h₀ : Heap} {m : Str → Option Value} {ox : Obj} {od : Option Obj}
theorem looks_called {M : Model} {h : Heap} {t : Value} {name : Str} {g : Addr} : Looks M h (calledByName t name (some (.ref g))) true := .now
theorem looks_num {M : Model} {h : Heap} {nm : String} (X : K.In h) (hs : findIn K (.ref C) (PySem.dunder nm) = some (some (.ref f))) (hr : findIn K (.ref C) (PySem.dunderR nm) = some (some (.ref f'))) : Looks M h (numberSlotInPython (.ref C) nm) true := by
  unfold numberSlotInPython
  refine (looks_findIn X hs).andThen (looks_called.andThen ((looks_findIn X hr).andThen (looks_called.andThen ?_)))
  exact .now
/-- x * i, x an own instance with __mul__ and __rmul__, i an int -/
theorem mul_left {i : Int} {t : Tok} {Q : Value → Shared → Prop} (F0 : PyProof.Rows.Fr h₀ L s.heap m) (X₀ : K.In h₀) (I : InstAt s.heap x ox C od) (hc : selfFirst K C = true)
    (hs : findIn K (.ref C) (PySem.dunder "mul") = some (some (.ref f))) (hr : findIn K (.ref C) (PySem.dunderR "mul") = some (some (.ref f'))) (hf : isFn K (.ref f) = true) (hsub : subIn K (.type "int") (.ref C) = some false)
    (h : wpAny (model prog w) A (call (.ref f) [.ref x, .int i t]) (PySem.W.CmpBack Q) E s) : wpAny (model prog w) A (binaryOp1 "mul" (.ref x) (.int i t)) (fun r s' => ∃ v, r = some v ∧ Q v s') E s := by
  have X := X₀.keeps F0.keep
  obtain ⟨cd, hcd, hm⟩ := any_some hc
  obtain ⟨rest, hm⟩ : ∃ rest, cd.mro = .ref C :: rest := by
    cases q : cd.mro with
    | nil => rw [q] at hm; cases hm
    | cons a r => rw [q] at hm; exact ⟨r, by rw [List.head?_cons] at hm; cases (beq_iff_eq.mp hm); rfl⟩
  unfold binaryOp1
  refine wpAny_bind (I.type.here (wpAny_bind (wpAny_typeOf (typeIs_int s i t) (wpAny_bind ((fills_K X hcd hm hs).here ?_)))))
  have hne : (Value.ref C == Value.type "int") = false := rfl
  simp only [hne, Bool.false_eq_true, if_false]
  refine wpAny_bind (wpAny_of_eq PySem.F.fills_int_mul ?_)
  simp only [Bool.and_self, if_true]
  refine wpAny_bind ((looks_subIn X hsub).here ?_)
  simp only [Bool.false_eq_true, if_false, pure_bind, Bool.not_false, Bool.and_self, if_true]
  refine wpAny_bind ((looks_num X hs hr).here ?_)
  simp only [if_true]
  refine wpAny_bind (wpAny_of_eq (show numberSlotInPython (.type "int") "mul" = pure false from rfl) ?_)
  simp only [Bool.not_false, if_true]
  refine wpAny_bind (wpAny_of_eq PySem.F.slot_int_rmul.lookup ?_)
  refine wpAny_bind (m := tryMethod (.ref x) _ _) ?_
  unfold tryMethod
  refine wpAny_bind (special_fn X I hs (beq_iff_eq.mp hf) (wpAny_mono h (fun v s' hv => ?_) fun _ _ e => e))
  cases v <;> first | exact hv.elim | exact wpAny_pure (wpAny_pure ⟨_, rfl, hv⟩)
/-- i * x -/
theorem mul_right {i : Int} {t : Tok} {dx : Addr} {Q : Value → Shared → Prop} (F0 : PyProof.Rows.Fr h₀ L s.heap m) (X₀ : K.In h₀) (I : InstAt s.heap x (instObj C dx) C od) (hc : selfFirst K C = true)
    (hs : findIn K (.ref C) (PySem.dunder "mul") = some (some (.ref f))) (hr : findIn K (.ref C) (PySem.dunderR "mul") = some (some (.ref f'))) (hf : isFn K (.ref f') = true) (hsub : subIn K (.ref C) (.type "int") = some false)
    (h : wpAny (model prog w) A (call (.ref f') [.ref x, .int i t]) (PySem.W.CmpBack Q) E s) : wpAny (model prog w) A (binaryOp1 "mul" (.int i t) (.ref x)) (fun r s' => ∃ v, r = some v ∧ Q v s') E s := by
  have X := X₀.keeps F0.keep
  obtain ⟨cd, hcd, hm⟩ := any_some hc
  obtain ⟨rest, hm⟩ : ∃ rest, cd.mro = .ref C :: rest := by
    cases q : cd.mro with
    | nil => rw [q] at hm; cases hm
    | cons a r => rw [q] at hm; exact ⟨r, by rw [List.head?_cons] at hm; cases (beq_iff_eq.mp hm); rfl⟩
  unfold binaryOp1
  refine wpAny_bind (wpAny_typeOf (typeIs_int s i t) (wpAny_bind (I.type.here (wpAny_bind (wpAny_of_eq PySem.F.fills_int_mul ?_)))))
  have hne : (Value.type "int" == Value.ref C) = false := rfl
  simp only [hne, Bool.false_eq_true, if_false]
  refine wpAny_bind ((fills_K X hcd hm hs).here ?_)
  simp only [Bool.and_self, if_true]
  refine wpAny_bind ((looks_subIn X hsub).here ?_)
  simp only [Bool.false_eq_true, if_false, pure_bind, Bool.not_false, Bool.and_self, if_true]
  refine wpAny_bind (wpAny_of_eq (show numberSlotInPython (.type "int") "mul" = pure false from rfl) ?_)
  simp only [Bool.false_eq_true, if_false, pure_bind]
  refine wpAny_bind (wpAny_tryMethod_declines (typeIs_int s i t) PySem.F.slot_int_mul (call_meets PySem.F.slot_int_mul (typeIs_int s i t) PySem.F.entry_int_mul (PySem.F.args_int_mul_2 _ _) (mul_ref i t x C dx) ⟨I.at_, rfl, ?_⟩))
  refine wpAny_bind (m := tryMethod (.ref x) _ _) ?_
  unfold tryMethod
  refine wpAny_bind (special_fn X I hr (beq_iff_eq.mp hf) (wpAny_mono h (fun v s' hv => ?_) fun _ _ e => e))
  cases v <;> first | exact hv.elim | exact wpAny_pure (wpAny_bind (wpAny_rule (wpAny_pure ⟨_, rfl, hv⟩)))
theorem binop_of {op : Operator} {a b : Value} {Q : Value → Shared → Prop} (hn : op.info.2 = "mul") (h : wpAny (model prog w) A (binaryOp1 "mul" a b) (fun r s' => ∃ v, r = some v ∧ Q v s') E s) : wpAny (model prog w) A (binaryOp op a b) Q E s := by
  unfold binaryOp
  refine wpAny_holding ?_
  rcases hi : op.info with ⟨sym, nm⟩
  rw [hi] at hn
  dsimp only at hn ⊢
  subst hn
  refine wpAny_bind (wpAny_mono h (fun r s' z => ?_) fun _ _ e => e)
  obtain ⟨v, rfl, q⟩ := z
  exact wpAny_pure q
theorem looks_inpl {M : Model} {h : Heap} {cd : ClassData} (X : K.In h) (hc : clsIn K C = some cd) (hm : cd.mro = [.ref C, .type "object"]) (hi : findIn K (.ref C) (PySem.dunderI "mul") = some none) : Looks M h (fillsInplaceSlot (.ref C) "mul" false) false := by
  intro A Q E s k q
  unfold fillsInplaceSlot
  refine wpAny_bind ((looks_clsIn X hc).andThen (f := fun cd => pure cd.mro) .now A _ E s k ?_)
  rw [hm, List.anyM_cons]
  refine wpAny_bind (wpAny_bind (looks_findIn X hi A _ E s k ?_))
  refine wpAny_pure ?_
  simp only [Bool.false_eq_true, if_false]
  rw [List.anyM_cons]
  refine wpAny_bind (wpAny_bind (wpAny_of_eq (show typeLookup (.type "object") (PySem.dunderI "mul") = pure none from ?_) ?_))
  · rw [typeLookup_type, builtinLookup_eq_fast, show fastLookup "object" (PySem.dunderI "mul") = some none from by decide +kernel]
  · refine wpAny_pure ?_
    simp only [Bool.false_eq_true, if_false]
    exact wpAny_pure q
theorem inpl_left {i : Int} {t : Tok} {Q : Value → Shared → Prop} {cd : ClassData} (F0 : PyProof.Rows.Fr h₀ L s.heap m) (X₀ : K.In h₀) (I : InstAt s.heap x ox C od) (hcd : clsIn K C = some cd) (hm : cd.mro = [.ref C, .type "object"]) (hi : findIn K (.ref C) (PySem.dunderI "mul") = some none)
    (h : wpAny (model prog w) A (binaryOp1 "mul" (.ref x) (.int i t)) (fun r s' => ∃ v, r = some v ∧ Q v s') E s) : wpAny (model prog w) A (inplaceOp .Mult (.ref x) (.int i t)) Q E s := by
  have X := X₀.keeps F0.keep
  unfold inplaceOp
  refine wpAny_holding (wpAny_bind (I.type.here ?_))
  refine wpAny_bind ((looks_inpl X hcd hm hi).here ?_)
  simp only [Bool.false_eq_true, if_false]
  refine wpAny_bind (wpAny_mono h (fun r s' z => ?_) fun _ _ e => e)
  obtain ⟨v, rfl, q⟩ := z
  exact wpAny_pure q
end
end OWN

end
section
namespace OWN
open PySem PySem.Spec PyProof.Rows L2
/-- a call that may raise, at the slots σ: what is wished of the exception is W's -/
def OpRS (X : Cx) (f : Value → Value → Sem Value) (r : L2.St → R2) : Prop :=
  ∀ (pins : List (Addr × Obj)) (s : Shared) (σ : L2.St) (H : Hp) (x y : V) (v u : Value) (Q : VK), Inv X pins σ H s → RelV x v → RelV y u → r σ x y H Q →
    wpAny (model X.prog X.w) X.A (f v u) (EP X pins σ Q) X.xe s
def tOpS (r : L2.St → R2) (ta tb : TE) : TE := fun σ H Q => ta σ H fun x H1 => tb σ H1 fun y H2 => r σ x y H2 Q
/-- x op y by the own class's def at g, x an instance of C -/
def rOwnS (C : Addr) (sp : Sp) (W : WX) : L2.St → R2 := fun σ x y H Q => ∃ a dx fs i, x = .ref a ∧ y = .int i ∧ H a = some (.ins C dx fs) ∧ sp [x, y] H Q (WE W σ)
def rOwnRS (C : Addr) (sp : Sp) (W : WX) : L2.St → R2 := fun σ x y H Q => ∃ a dx fs i, x = .int i ∧ y = .ref a ∧ H a = some (.ins C dx fs) ∧ sp [y, x] H Q (WE W σ)
def rOwnC (C : Addr) (sp : Sp) (E : XK) : R2 := fun x y H Q => ∃ a dx fs b dy gs, x = .ref a ∧ y = .ref b ∧ H a = some (.ins C dx fs) ∧ H b = some (.ins C dy gs) ∧ sp [x, y] H Q E
/-- what the text says of a class with __mul__ (at f) and __rmul__ (at f') -/
structure MulC (K : PySem.W.Frag) (C f f' : Addr) : Prop where
  sf : PySem.W.selfFirst K C = true
  mu : PySem.W.findIn K (.ref C) (PySem.dunder "mul") = some (some (.ref f))
  rm : PySem.W.findIn K (.ref C) (PySem.dunderR "mul") = some (some (.ref f'))
  fm : PySem.W.isFn K (.ref f) = true
  fr : PySem.W.isFn K (.ref f') = true
  s1 : PySem.W.subIn K (.type "int") (.ref C) = some false
  s2 : PySem.W.subIn K (.ref C) (.type "int") = some false
structure InpC (K : PySem.W.Frag) (C : Addr) : Prop where
  cd : ∃ cd, PySem.W.clsIn K C = some cd ∧ cd.mro = [.ref C, .type "object"]
  im : PySem.W.findIn K (.ref C) (PySem.dunderI "mul") = some none
section
variable {X : Cx} {a b : Expr} {ta tb : TE} {pos : Pos} {C f f' g : Addr} {n : Nat} {fd : FuncData} {ps : List Str} {sp : Sp} {W : WX} {E : XK} {CX : CXT}
theorem pe_opS {op : Operator} {r : L2.St → R2} (ho : OpRS X (binaryOp op) r) (ha : PE X a ta) (hb : PE X b tb) : PE X (.BinOp a op b pos) (tOpS r ta tb) := by
  refine ⟨fun pins s σ H Q I h => ?_⟩
  exact wpAny_BinOp (binT ha hb I h fun v u s2 x y H2 I2 rx ry q => ho pins s2 σ H2 x y v u Q I2 rx ry q)
theorem back {pins : List (Addr × Obj)} {σ : L2.St} {Q : VK} {v : Value} {s' : Shared} (z : EP X pins σ Q v s') : PySem.W.CmpBack (EP X pins σ Q) v s' := by
  obtain ⟨z', H', I', rz, qz⟩ := z
  exact SlX.cmpback rz ⟨z', H', I', rz, qz⟩
theorem ops_mulL (M : MulC X.K C f f') (F : FnOk X.prog X.w X.K X.mg X.base (L2.CX X.prog X.w) n f fd ps sp) (hr : Room n X.A) (hb : Binds X.K fd ps []) (tk : Takes X W) : OpRS X (binaryOp .Mult) (rOwnS C sp W) := by
  intro pins s σ H x y v u Q I rx ry h
  obtain ⟨a, dx, fs, i, rfl, rfl, ha, q⟩ := h
  cases (show v = Value.ref a from rx)
  obtain ⟨t, rfl⟩ := ry
  obtain ⟨mA, O, rr, _⟩ := ins_get I.hok ha
  obtain ⟨od, J, hl⟩ := O.look
  obtain ⟨m, hF⟩ := I.fr
  refine binop_of (by rfl) (mul_left hF I.ok.mod.kin J M.sf M.mu M.rm M.fm M.s1 ?_)
  exact wpAny_mono (run_fnS (us := [.ref a, .int i t]) (vs := [.ref a, .int i]) (E := WE W) F hr hb (passAt tk σ) I (.cons rfl (.cons ⟨t, rfl⟩ .nil)) q) (fun w s' z => back z) fun _ _ x => x
theorem ops_mulR (M : MulC X.K C f f') (F : FnOk X.prog X.w X.K X.mg X.base (L2.CX X.prog X.w) n f' fd ps sp) (hr : Room n X.A) (hb : Binds X.K fd ps []) (tk : Takes X W) : OpRS X (binaryOp .Mult) (rOwnRS C sp W) := by
  intro pins s σ H x y v u Q I rx ry h
  obtain ⟨a, dx, fs, i, rfl, rfl, ha, q⟩ := h
  cases (show u = Value.ref a from ry)
  obtain ⟨t, rfl⟩ := rx
  obtain ⟨mA, O, rr, _⟩ := ins_get I.hok ha
  obtain ⟨od, J, hl⟩ := O.look
  obtain ⟨m, hF⟩ := I.fr
  refine binop_of (by rfl) (mul_right hF I.ok.mod.kin J M.sf M.mu M.rm M.fr M.s2 ?_)
  exact wpAny_mono (run_fnS (us := [.ref a, .int i t]) (vs := [.ref a, .int i]) (E := WE W) F hr hb (passAt tk σ) I (.cons rfl (.cons ⟨t, rfl⟩ .nil)) q) (fun w s' z => back z) fun _ _ x => x
theorem ops_imul (M : MulC X.K C f f') (IC : InpC X.K C) (F : FnOk X.prog X.w X.K X.mg X.base (L2.CX X.prog X.w) n f fd ps sp) (hr : Room n X.A) (hb : Binds X.K fd ps []) (tk : Takes X W) : OpRS X (inplaceOp .Mult) (rOwnS C sp W) := by
  intro pins s σ H x y v u Q I rx ry h
  obtain ⟨a, dx, fs, i, rfl, rfl, ha, q⟩ := h
  cases (show v = Value.ref a from rx)
  obtain ⟨t, rfl⟩ := ry
  obtain ⟨mA, O, rr, _⟩ := ins_get I.hok ha
  obtain ⟨od, J, hl⟩ := O.look
  obtain ⟨m, hF⟩ := I.fr
  obtain ⟨cd, hcd, hm⟩ := IC.cd
  refine inpl_left hF I.ok.mod.kin J hcd hm IC.im (mul_left hF I.ok.mod.kin J M.sf M.mu M.rm M.fm M.s1 ?_)
  exact wpAny_mono (run_fnS (us := [.ref a, .int i t]) (vs := [.ref a, .int i]) (E := WE W) F hr hb (passAt tk σ) I (.cons rfl (.cons ⟨t, rfl⟩ .nil)) q) (fun w s' z => back z) fun _ _ x => x
/-- x op= e at a name, by an own class's def -/
def tAugO (i : Nat) (te : TE) (r : L2.St → R2) : TS := fun D σ H => ∃ x, σ[i]? = some (some x) ∧ te σ H fun y H1 => r σ x y H1 fun z H2 => D.nx (σ.set i (some z)) H2
theorem ps_augO {i : Nat} {x : Str} {e : Expr} {te : TE} {op : Operator} {r : L2.St → R2} {pos' : Pos} (hN : X.N.Nodup) (hi : X.N[i]? = some x) (hx : Loc X.env.scope x) (he : PE X e te) (ho : OpRS X (inplaceOp op) r)
    (hf : X.fn x = true ∨ X.env.scope.names.lookup x = some .local := by first | exact .inl rfl | exact .inr rfl | assumption) : PS X (.AugAssign (.Name x pos') op e pos) (tAugO i te r) := by
  refine ⟨fun pins s σ H D I h => ?_⟩
  obtain ⟨v, e1, h⟩ := h
  obtain ⟨m, hn, hl⟩ := I.loc
  have vis : Vis X.env.scope x := hx.elim Or.inl fun k => Or.inr (Or.inl k)
  obtain ⟨u, ru, l⟩ := hl i x v hi e1 vis
  refine wpAny_AugAssign_Name ?_
  have go : wpAny (model X.prog X.w) X.A (eval e X.env) (fun w s₂ => wpAny (model X.prog X.w) X.A (inplaceOp op u w) (fun q s₃ => wpAny (model X.prog X.w) X.A (storeName X.env x q) (fun _ => SP X pins D .next) X.xe s₃) X.xe s₂) X.xe s :=
    thn (he.run pins s σ H _ I h) fun w s1 ⟨y, H1, I1, r1, q1⟩ => thn (ho pins s1 σ H1 v y u w _ I1 ru r1 q1) fun z s2 ⟨zv, H2, I2, r2, q2⟩ => store_ok I2 hN hi hx r2 (fun s3 I3 => ⟨_, H2, I3, q2⟩) hf
  rcases l with ⟨hk, hm⟩ | ⟨hk, c, hc, hcell⟩
  · exact wpAny_loadName_local I.ok.kind hk hn hm go
  · rcases hk with hk | hk
    · exact wpAny_loadName_cell I.ok.kind hk hc hcell go
    · rcases hx with k | k <;> (rw [show X.env.scope.names.lookup x = some .free from hk] at k; cases k)
theorem op_ownC {op : CmpOp} (hop : ∀ a b, compareOp op a b = richCompare op a b) (hs : PySem.W.findIn X.K (.ref C) (cmpInfo op).2.1 = some (some (.ref g))) (hf : PySem.W.isFn X.K (.ref g) = true) (F : FnOk X.prog X.w X.K X.mg X.base CX n g fd ps sp)
    (hr : Room n X.A) (hb : Binds X.K fd ps []) (hx : Passes CX X E) : OpR X (compareOp op) (rOwnC C sp E) := by
  intro pins s σ H x y v u Q I rx ry h
  obtain ⟨a, dx, fs, b, dy, gs, rfl, rfl, ha, hb', q⟩ := h
  cases (show v = Value.ref a from rx)
  cases (show u = Value.ref b from ry)
  obtain ⟨mA, O, _⟩ := ins_get I.hok ha
  obtain ⟨od, J, _⟩ := O.look
  obtain ⟨mA', O', _⟩ := ins_get I.hok hb'
  obtain ⟨od', J', _⟩ := O'.look
  obtain ⟨m, hF⟩ := I.fr
  rw [hop]
  refine PySem.W.cmp_K (op := op) (tb := .ref C) hr.units0 hF I.ok.mod.kin J J'.type (by unfold PySem.W.notFirst; simp) hs hf ?_
  exact wpAny_mono (run_fn (us := [.ref a, .ref b]) (vs := [.ref a, .ref b]) F hr hb .nil hx I (.cons rfl (.cons rfl .nil)) (by rw [List.append_nil]; exact q)) (fun w s' z => back z) fun _ _ x => x
theorem r_topS {σ : L2.St} {H : Hp} {Q : VK} {r : L2.St → R2} (h : ta σ H fun x H1 => tb σ H1 fun y H2 => r σ x y H2 Q) : tOpS r ta tb σ H Q := h
theorem r_ownS {σ : L2.St} {H : Hp} {Q : VK} {x dx : Addr} {fs : List (Str × V)} {i : Int} (h : H x = some (.ins C dx fs)) (q : sp [.ref x, .int i] H Q (WE W σ)) : rOwnS C sp W σ (.ref x) (.int i) H Q := ⟨x, dx, fs, i, rfl, rfl, h, q⟩
theorem r_ownRS {σ : L2.St} {H : Hp} {Q : VK} {x dx : Addr} {fs : List (Str × V)} {i : Int} (h : H x = some (.ins C dx fs)) (q : sp [.ref x, .int i] H Q (WE W σ)) : rOwnRS C sp W σ (.int i) (.ref x) H Q := ⟨x, dx, fs, i, rfl, rfl, h, q⟩
theorem r_ownC {H : Hp} {Q : VK} {x dx y dy : Addr} {fs gs : List (Str × V)} (h : H x = some (.ins C dx fs)) (h' : H y = some (.ins C dy gs)) (q : sp [.ref x, .ref y] H Q E) : rOwnC C sp E (.ref x) (.ref y) H Q := ⟨x, dx, fs, y, dy, gs, rfl, rfl, h, h', q⟩
theorem r_augO {i : Nat} {σ : L2.St} {H : Hp} {D : Ends} {x : V} {r : L2.St → R2} (h : σ[i]? = some (some x)) (q : ta σ H fun y H1 => r σ x y H1 fun z H2 => D.nx (σ.set i (some z)) H2) : tAugO i ta r D σ H := ⟨x, h, q⟩
def rIsC (C : Addr) : List V → Hp → VK → Prop := fun xs H Q => ∃ a dx fs, xs = [.ref a, .ref C] ∧ H a = some (.ins C dx fs) ∧ Q (.bl true) H
theorem r_cbIsC {A : TA} {σ : L2.St} {H : Hp} {Q : VK} (h : A σ H fun vs H1 => rIsC C vs H1 Q) : tCB (fun xs H Q => ∃ a dx fs, xs = [V.ref a, V.ref C] ∧ H a = some (HO.ins C dx fs) ∧ Q (V.bl true) H) A σ H Q := h
theorem r_isC {H : Hp} {Q : VK} {x dx : Addr} {fs : List (Str × V)} (h : H x = some (.ins C dx fs)) (q : Q (.bl true) H) : rIsC C [.ref x, .ref C] H Q := ⟨x, dx, fs, rfl, h, q⟩
end
end OWN

end
section
namespace OWN
open PySem PySem.Spec PyProof.Rows L2
theorem tuple_mul1 (l : Addr) (items : Array Value) (n : Nat) (dd : Option Addr) (sl : Array (Option Value)) (x : Int) (u : Tok) (c0 : (decide (x < -(2 ^ 63)) || decide (x ≥ 2 ^ 63)) = false) (c1 : (items.isEmpty || x == 1) = true) :
    Meets (Builtin.«tuple.__mul__» ⟨[.ref l, .int x u], []⟩) (fun _ R s => s.heap.get? l = some { cls := .type "tuple", dict := dd, data := .seq items n, slots := sl } ∧ R (.ok (.ret (Value.ref l))) s) :=
  .of_wp fun prog w A R s h => by
    obtain ⟨hp, g, d, tk, os⟩ := s
    obtain ⟨hl, h⟩ := h
    have f1 := AutoSeq1.idx_int
    wp_walk using wpAny_loadPart' hl
    repeat (first
      | (refine wpAny_ite_false (decide_eq_false (by rw [c0]; exact Bool.false_ne_true)) ?_; wp_walk using wpAny_loadPart' hl)
      | (refine wpAny_ite_true (decide_eq_true (by rw [c1])) ?_; wp_walk using wpAny_loadPart' hl))
    exact ⟨_, rfl, h⟩
/-- t * k, k from 1 on -/
def rRepA (K : PySem.W.Frag) : R2 := fun x y H Q => ∃ l k xs, x = .ref l ∧ y = .int k ∧ SqT K H l xs ∧ xs ≠ [] ∧ 1 ≤ k ∧ k ≤ 1000 ∧ xs.length ≤ 1000 ∧ (k = 1 → Q (.ref l) H) ∧ (2 ≤ k → ∀ p, H p = none → Q (.ref p) (upd H p (.tup (List.replicate k.toNat xs).flatten)))
section
variable {X : Cx}
theorem op_repA : OpR X (binaryOp .Mult) (rRepA X.K) := by
  intro pins s σ H x y v u Q I rx ry h
  obtain ⟨l, k, xs, rfl, rfl, hT, hne, h1, h2, hz, q1, q2⟩ := h
  by_cases hk : k = 1
  · subst hk
    cases rx
    obtain ⟨t, rfl⟩ := ry
    obtain ⟨its, r, ⟨⟨cls, dd, data, sl⟩, ho, hc, n, hd⟩, hs⟩ := I.tuple hT
    simp only at hc hd
    subst hc hd
    refine wpAny_binaryOp_repeat_ref (T := "tuple") (U := "int") (by decide) ⟨_, ho, rfl⟩ (fun s' => typeIs_int s' 1 t) noFill_tuple_mul F.fills_int_mul F.slot_int_rmul repeat_tuple F.slot_int_index.lookup
      (call_meets F.slot_int_rmul (typeIs_int s 1 t) F.entry_int_rmul (F.args_int_rmul_2 _ _) (int_rmul_tuple 1 t l its.toArray n dd sl)
        ⟨ho, rfl, ⟨_, ho, rfl⟩, call_meets F.slot_tuple_mul ⟨_, ho, rfl⟩ F.entry_tuple_mul (F.args_tuple_mul_2 _ _) (tuple_mul1 l its.toArray n dd sl 1 t (by decide) (by simp)) ⟨ho, ?_⟩⟩)
    exact ⟨.ref l, H, I, rfl, q1 rfl⟩
  · exact op_repT pins s σ H _ _ v u Q I rx ry ⟨l, k, xs, rfl, rfl, hT, hne, by omega, h2, hz, q2 (by omega)⟩
end
/-- a class called by a local name: the i-th slot holds the class at C -/
def tMakeL (i : Nat) (C : Addr) (sp : Sp) (dvs : List V) (E : XK) (t : TA) : TE := fun σ H Q => σ[i]? = some (some (.ref C)) ∧ t σ H fun vs H1 => RD.rMake C sp dvs E vs H1 Q
section
variable {X : Cx} {CX : CXT} {k i : Nat} {C f : Addr} {fd : FuncData} {ps : List Str} {sp : Sp} {dvs : List V} {ds : List Value} {E : XK} {x : Str} {p pos : Pos} {e : Expr} {es : List Expr} {t : TA}
theorem pe_makeL (M : Mk X.K C f) (F : FnOk X.prog X.w X.K X.mg X.base CX k f fd ps sp) (hr : Room (k + 1) X.A) (hN : X.N[i]? = some x) (hv : Vis X.env.scope x) (hb : Binds X.K fd ps ds) (hd : Vals dvs ds) (hx : Passes CX X E) (ha : PA X (e :: es) t)
    (hdb : (x == ("__debug__" : Str)) = false := by decide) (hcd : (x == ("__classdict__" : Str)) = false := by decide)
    (he : starEach (e :: es) X.env = (false, eval e X.env) :: starEach es X.env := by rfl) (hpl : (backTo pos (starEach es X.env)).any (·.1) = false := by rfl) : PE X (.Call (.Name x p) (e :: es) [] pos) (tMakeL i C sp dvs E t) := by
  refine ⟨fun pins s σ H Q I h => ?_⟩
  obtain ⟨hs, ht⟩ := h
  refine wpAny_Call_Name_kw (thn ((pe_var (pos := p) hN hv hdb hcd).run pins s σ H (fun v H1 => v = .ref C ∧ H1 = H) I ⟨.ref C, hs, rfl, rfl⟩) fun u s1 ⟨v, H1, I1, r1, q1⟩ => ?_)
  obtain ⟨rfl, rfl⟩ := q1
  cases r1
  refine PySem.W.callWith_K (h₀ := X.base) I.ok.mod.kin M.kp (thn (ha.run pos pins s1 σ _ _ I1 ht) fun us s2 ⟨vs, H2, I2, r, q⟩ => ⟨I2.kIn, ?_⟩) he hpl
  exact run_make M F hr hb hd hx I2 r q
theorem r_makeL {A : TA} {σ : L2.St} {H : Hp} {Q : VK} (h : σ[i]? = some (some (.ref C))) (q : A σ H fun vs H1 => RD.rMake C sp dvs E vs H1 Q) : tMakeL i C sp dvs E A σ H Q := ⟨h, q⟩
theorem r_repA {K : PySem.W.Frag} {H : Hp} {Q : VK} {l : Addr} {z k : Int} (h : SqT K H l [V.int z]) (h1 : 1 ≤ k) (h2 : k ≤ 1000) (q : ∀ p H', (∀ b o, H b = some o → H' b = some o) → H' p = some (.tup ((List.replicate k.toNat z).map V.int)) → Q (.ref p) H') (hl : H l = some (.tup [V.int z])) : rRepA K (.ref l) (.int k) H Q := by
  refine ⟨l, k, _, rfl, rfl, h, by simp, h1, h2, by simp, fun e => ?_, fun _ p hp => ?_⟩
  · subst e; exact q l H (fun _ _ e => e) hl
  · refine q p _ (fun b o e => by rw [upd_ne (ne_of_none e hp)]; exact e) ?_
    rw [upd_same]
    have : ∀ n : Nat, (List.replicate n [V.int z]).flatten = (List.replicate n z).map V.int := fun n => by
      induction n with
      | zero => rfl
      | succ n ih => rw [List.replicate_succ, List.flatten_cons, ih, List.replicate_succ, List.map_cons]; rfl
    rw [this]
end
/-- o.m(e, ..) with what is raised wished for at the slots -/
def tMethW (C : Addr) (m : Str) (sp : Sp) (W : WX) (ta : TE) (t : TA) : TE := fun σ H Q => ta σ H fun x H1 => ∃ a dx fs, x = .ref a ∧ H1 a = some (.ins C dx fs) ∧ fs.lookup m = none ∧ t σ H1 fun vs H2 => sp (x :: vs) H2 Q (WE W σ)
/-- C.m(e, ..), m a classmethod, likewise -/
def tCMethW (C : Addr) (sp : Sp) (W : WX) (ta : TE) (t : TA) : TE := fun σ H Q => ta σ H fun x H1 => x = .ref C ∧ t σ H1 fun vs H2 => sp (.ref C :: vs) H2 Q (WE W σ)
section
variable {X : Cx} {k : Nat} {C f p g : Addr} {fd : FuncData} {ps : List Str} {sp : Sp} {W : WX} {m : Str} {pos apos : Pos} {o e : Expr} {es : List Expr} {ta : TE} {t : TA} {pl : Sem Bool} {mc : Value}
theorem pe_methW (he : PE X o ta) (c : Cls X.K C) (hm : Meth X.K C m f) (F : FnOk X.prog X.w X.K X.mg X.base (L2.CX X.prog X.w) k f fd ps sp) (hr : Room k X.A) (hb : Binds X.K fd ps []) (tk : Takes X W) (ha : PA X (e :: es) t)
    (hst : starEach (e :: es) X.env = (false, eval e X.env) :: starEach es X.env := by rfl) (hpl : (backTo pos (starEach es X.env)).any (·.1) = false := by rfl)
    (ht : eval (.Call (.Attribute o m apos) (e :: es) [] pos) X.env = (do
      let ov ← eval o X.env
      standAt apos.atName
      let (f, first) ← holding [ov] (getMethod ov m pl)
      callWith pos f first (backTo pos (starEach (e :: es) X.env)) (backToKw pos (keywordEach [] X.env))) := by rfl) :
    PE X (.Call (.Attribute o m apos) (e :: es) [] pos) (tMethW C m sp W ta t) := by
  refine ⟨fun pins s σ H Q I h => ?_⟩
  refine PySem.W.methodCall_KW (pl := pl) (thn (he.run pins s σ H _ I h) fun u s1 ⟨x, H1, I1, rx, a, dx, fs, ex, ea, l, q⟩ => ?_) ht
  subst ex
  obtain rfl : u = Value.ref a := rx
  refine getmeth_ok I1 ea c hm l ?_
  refine PySem.W.callWith_K (first := [.ref a]) (h₀ := X.base) I.ok.mod.kin hm.kp (thn (ha.run pos pins s1 σ H1 _ I1 q) fun us s2 ⟨vs, H2, I2, r, q2⟩ => ⟨I2.kIn, ?_⟩) hst hpl
  exact run_fnS (us := .ref a :: us) (vs := .ref a :: vs) (E := WE W) F hr hb (passAt tk σ) I2 (.cons rfl r) q2
theorem run_cmW {pins : List (Addr × Obj)} {σ : L2.St} {H : Hp} {s : Shared} {q : Addr} {Q : VK} {us : List Value} {vs : List V} (F : FnOk X.prog X.w X.K X.mg X.base (L2.CX X.prog X.w) k g fd ps sp) (hr : Room k X.A) (hb : Binds X.K fd ps []) (tk : Takes X W)
    (I : Inv X ((q, PySem.W.methodObj (.ref g) (.ref C)) :: pins) σ H s) (r : Vals vs us) (h : sp (.ref C :: vs) H Q (WE W σ)) : wpAny (model X.prog X.w) X.A (call (.ref q) us) (EP X pins σ Q) X.xe s := by
  have z : wpAny (model X.prog X.w) X.A (call (.ref q) us) (EP X ((q, PySem.W.methodObj (.ref g) (.ref C)) :: pins) σ Q) X.xe s := by
    refine wpAny_call (PySem.W.method_call (ClX.pin_at I) ?_)
    have r' : Vals (.ref C :: vs) (.ref C :: us) := .cons rfl r
    have hl : (Value.ref C :: us).length = ps.length := by rw [← r'.length]; exact F.len _ _ _ _ h
    have b := hb s (.ref C :: us) I.kIn (by rw [List.append_nil]; exact hl)
    rw [List.append_nil] at b
    refine codeAny_mono (F.run X.A X.stack s H ⟨.ref C :: us, []⟩ (.ref C :: us) (.ref C :: vs) Q (WE W σ) hr I.env0 b r' h) fun r s' hq => ?_
    cases r with
    | error e => exact passAt tk σ _ H s e s' I hq
    | ok fl =>
      cases fl with
      | ret u => exact I.after hq
      | next => exact False.elim hq
      | brk => exact False.elim hq
      | cont => exact False.elim hq
  exact thn z fun _ _ y => ClX.unpinE y
theorem pe_cmethW (he : PE X o ta) (r : ClX.CRead X.K C mc) (c : ClX.CMet X.K C mc m p g) (F : FnOk X.prog X.w X.K X.mg X.base (L2.CX X.prog X.w) k g fd ps sp) (hr : Room k X.A) (hb : Binds X.K fd ps []) (tk : Takes X W) (ha : PA X (e :: es) t)
    (hst : starEach (e :: es) X.env = (false, eval e X.env) :: starEach es X.env := by rfl) (hpl : (backTo pos (starEach es X.env)).any (·.1) = false := by rfl)
    (ht : eval (.Call (.Attribute o m apos) (e :: es) [] pos) X.env = (do
      let ov ← eval o X.env
      standAt apos.atName
      let (f, first) ← holding [ov] (getMethod ov m pl)
      callWith pos f first (backTo pos (starEach (e :: es) X.env)) (backToKw pos (keywordEach [] X.env))) := by rfl) :
    PE X (.Call (.Attribute o m apos) (e :: es) [] pos) (tCMethW C sp W ta t) := by
  refine ⟨fun pins s σ H Q I h => ?_⟩
  refine PySem.W.methodCall_KW (pl := pl) (thn (he.run pins s σ H _ I h) fun u s1 ⟨x, H1, I1, rx, ex, q⟩ => ?_) ht
  subst ex
  obtain rfl : u = Value.ref C := rx
  refine ClX.getmethcm_ok I1 r c fun s2 I2 => ?_
  refine ClX.callwith_cm I2 (ClX.base_none I1 (Nat.le_refl _)) c.fi (thn (ha.run pos _ s2 σ H1 _ I2 q) fun us s3 ⟨vs, H2, I3, rv, q2⟩ => ⟨⟨ClX.pin_at I3, I3.kIn⟩, ?_⟩) hst hpl
  exact run_cmW F hr hb tk I3 rv q2
def rMethW (C : Addr) (m : Str) (sp : Sp) (W : WX) (t : TA) (σ : L2.St) : V → Hp → VK → Prop := fun x H1 Q => ∃ a dx fs, x = .ref a ∧ H1 a = some (.ins C dx fs) ∧ fs.lookup m = none ∧ t σ H1 fun vs H2 => sp (x :: vs) H2 Q (WE W σ)
theorem r_tmethW {σ : L2.St} {H : Hp} {Q : VK} (h : ta σ H fun x H1 => rMethW C m sp W t σ x H1 Q) : tMethW C m sp W ta t σ H Q := h
theorem r_methW {σ : L2.St} {H : Hp} {Q : VK} {a dx : Addr} {fs : List (Str × V)} (h : H a = some (.ins C dx fs)) (l : fs.lookup m = none) (q : t σ H fun vs H2 => sp (.ref a :: vs) H2 Q (WE W σ)) : rMethW C m sp W t σ (.ref a) H Q := ⟨a, dx, fs, rfl, h, l, q⟩
def rCMethW (C : Addr) (sp : Sp) (W : WX) (t : TA) (σ : L2.St) : V → Hp → VK → Prop := fun x H1 Q => x = .ref C ∧ t σ H1 fun vs H2 => sp (.ref C :: vs) H2 Q (WE W σ)
theorem r_tcmethW {σ : L2.St} {H : Hp} {Q : VK} (h : ta σ H fun x H1 => rCMethW C sp W t σ x H1 Q) : tCMethW C sp W ta t σ H Q := h
theorem r_cmethW {σ : L2.St} {H : Hp} {Q : VK} (q : t σ H fun vs H2 => sp (.ref C :: vs) H2 Q (WE W σ)) : rCMethW C sp W t σ (.ref C) H Q := ⟨rfl, q⟩
end
end OWN

end
section
namespace OWN
open PySem PySem.Spec PyProof.Rows L2
/-- three tuples walked side by side, the items in new triples -/
def Itz3 (K : PySem.W.Frag) (a b c : Addr) : It :=
  ⟨fun i H => ∃ (xs ys zs : List V) (x y z : V), SqT K H a xs ∧ SqT K H b ys ∧ SqT K H c zs ∧ xs[i]? = some x ∧ ys[i]? = some y ∧ zs[i]? = some z,
    fun i H v H' => ∃ T x y z, v = .ref T ∧ H T = none ∧ H' = upd H T (.tup [x, y, z]) ∧ (∀ xs, SqT K H a xs → xs[i]? = some x) ∧ (∀ ys, SqT K H b ys → ys[i]? = some y) ∧ ∀ zs, SqT K H c zs → zs[i]? = some z,
    fun i H => ∃ xs ys zs : List V, SqT K H a xs ∧ SqT K H b ys ∧ SqT K H c zs ∧ i = min (min xs.length ys.length) zs.length⟩
/-- the iterators' own state ahead of turn i -/
def Z3 (z TI TO i1 i2 i3 a b c : Addr) (i : Nat) (h : Heap) : Prop :=
  IsZip h z TI TO .none ∧ IsTupOf3 h TI (.ref i1) (.ref i2) (.ref i3) ∧ (∃ a1 a2 a3, IsTupOf3 h TO a1 a2 a3) ∧ h.IsTupleIter i1 a i ∧ h.IsTupleIter i2 b i ∧ h.IsTupleIter i3 c i
theorem turn_zip3 {P : Program} {w : World} {K : PySem.W.Frag} {elts : List Expr} {kk : Nat} {tpos : Pos} {a b c z TI TO i1 i2 i3 : Addr} (D : ZipSep3 z TI TO i1 i2 i3 [i1, a] [i2, b] [i3, c]) (na : a ≠ i1) (nb : b ≠ i2) (nc : c ≠ i3) :
    Turn P w K (.Tuple elts kk tpos) (Itz3 K a b c) [z, TI, TO, i1, i2, i3] z (Z3 z TI TO i1 i2 i3 a b c) where
  mem := by simp
  obj := fun i h st x hx => by
    obtain ⟨hz, hTI, ⟨a1, a2, a3, hTO⟩, ⟨o1, e1, _, d1⟩, ⟨o2, e2, _, d2⟩, ⟨o3, e3, _, d3⟩⟩ := st
    have e' : x = z ∨ x = TI ∨ x = TO ∨ x = i1 ∨ x = i2 ∨ x = i3 := by simpa using hx
    rcases e' with q | q | q | q | q | q
    · rw [q]; exact ⟨_, hz, fun v q => nomatch q⟩
    · rw [q]; exact ⟨_, hTI, fun v q => nomatch q⟩
    · rw [q]; exact ⟨_, hTO, fun v q => nomatch q⟩
    · rw [q]; exact ⟨o1, e1, fun v q => by rw [d1] at q; cases q⟩
    · rw [q]; exact ⟨o2, e2, fun v q => by rw [d2] at q; cases q⟩
    · rw [q]; exact ⟨o3, e3, fun v q => by rw [d3] at q; cases q⟩
  keep := fun i h h' st k => by
    obtain ⟨hz, hTI, ⟨a1, a2, a3, hTO⟩, h1, h2, h3⟩ := st
    exact ⟨k z (by simp) _ hz, k TI (by simp) _ hTI, ⟨a1, a2, a3, k TO (by simp) _ hTO⟩, h1.at fun o q => k i1 (by simp) o q, h2.at fun o q => k i2 (by simp) o q, h3.at fun o q => k i3 (by simp) o q⟩
  item := by
    intro X hP hw hK hc i pins s σ H E I hf st hg
    subst hP hw hK
    obtain ⟨hz, hTI, hTO, h1, h2, h3⟩ := id st
    obtain ⟨xs, ys, zs, x, y, v, hqx, hqy, hqz, hx, hy, hv⟩ := hg
    obtain ⟨its1, rv1, p1, _⟩ := I.tuple hqx
    obtain ⟨its2, rv2, p2, _⟩ := I.tuple hqy
    obtain ⟨its3, rv3, p3, _⟩ := I.tuple hqz
    obtain ⟨u1, hu1, ru1⟩ := rv1.get hx
    obtain ⟨u2, hu2, ru2⟩ := rv2.get hy
    obtain ⟨u3, hu3, ru3⟩ := rv3.get hv
    have hh := I.ok.hd hc
    have hh' : X.A.in1.handled = none := hh
    have W := GoesN.zip3 (prog := X.prog) (w := X.w) (A := X.A) (elts := elts) (x1 := kk) (pos := tpos) D (Draws.tuple hh' i1 a na its1.toArray) (Draws.tuple hh' i2 b nb its2.toArray) (Draws.tuple hh' i3 c nc its3.toArray)
    have l1 := (List.getElem?_eq_some_iff.mp hu1).1
    have l2 := (List.getElem?_eq_some_iff.mp hu2).1
    have l3 := (List.getElem?_eq_some_iff.mp hu3).1
    refine W.goes i s _ E (by simp; omega) ⟨hz, hTI, hTO, ⟨h1, p1⟩, ⟨h2, p2⟩, ⟨h3, p3⟩⟩ fun vv h' tk hY hS hk ht => ?_
    obtain ⟨T, v1, v2, v3, rfl, hT, e1, e2, e3, hTT⟩ := hY
    obtain ⟨hz', hTI', hTO', ⟨h1', _⟩, ⟨h2', _⟩, ⟨h3', _⟩⟩ := hS
    have q1 : v1 = u1 := by
      have := e1; rw [List.getElem?_toArray, hu1] at this; exact (Option.some.inj this).symm
    have q2 : v2 = u2 := by
      have := e2; rw [List.getElem?_toArray, hu2] at this; exact (Option.some.inj this).symm
    have q3 : v3 = u3 := by
      have := e3; rw [List.getElem?_toArray, hu3] at this; exact (Option.some.inj this).symm
    subst q1 q2 q3
    have new : ObjOk X.prog X.w (upd H T (.tup [x, y, v])) h' T (.tup [x, y, v]) := ⟨by show 3 ≤ sizeLine; decide, [v1, v2, v3], .cons ru1 (.cons ru2 (.cons ru3 .nil)), hTT⟩
    have sub : ∀ d, d ∈ [z, TO, i1, i2, i3] → d ∈ [z, TI, TO, i1, i2, i3] := fun d hd => by
      have e' : d = z ∨ d = TO ∨ d = i1 ∨ d = i2 ∨ d = i3 := by simpa using hd
      rcases e' with q | q | q | q | q <;> (rw [q]; simp)
    have I1 : Inv X pins σ (upd H T (.tup [x, y, v])) { s with heap := h', toks := tk } := I.turnedNew (ch := [z, TO, i1, i2, i3]) hk (fun d hd => hf d (sub d hd)) hT new
    refine ⟨.ref T, _, I1, rfl, ⟨T, x, y, v, rfl, I.hok.fresh hT, rfl, fun l hl => by rw [I.tuple_inj hl hqx]; exact hx, fun l hl => by rw [I.tuple_inj hl hqy]; exact hy, fun l hl => by rw [I.tuple_inj hl hqz]; exact hv⟩, ⟨hz', hTI', hTO', h1', h2', h3'⟩, fun d hd => ?_⟩
    have hlt : d < s.heap.objs.size := by
      have e' : d = z ∨ d = TI ∨ d = TO ∨ d = i1 ∨ d = i2 ∨ d = i3 := by simpa using hd
      obtain ⟨a1, a2, a3, hTOo⟩ := hTO
      obtain ⟨o1, g1, _⟩ := h1
      obtain ⟨o2, g2, _⟩ := h2
      obtain ⟨o3, g3, _⟩ := h3
      rcases e' with q | q | q | q | q | q
      · rw [q]; exact Heap.lt_size hz
      · rw [q]; exact Heap.lt_size hTI
      · rw [q]; exact Heap.lt_size hTOo
      · rw [q]; exact Heap.lt_size g1
      · rw [q]; exact Heap.lt_size g2
      · rw [q]; exact Heap.lt_size g3
    rw [upd_ne (Nat.ne_of_lt (Nat.lt_of_lt_of_le hlt hT))]
    exact (hf d hd).1
  done := by
    intro X hP hw hK hc i pins s σ H E I hf st hg
    subst hP hw hK
    obtain ⟨hz, hTI, hTO, h1, h2, h3⟩ := id st
    obtain ⟨xs, ys, zs, hqx, hqy, hqz, hi⟩ := hg
    obtain ⟨its1, rv1, p1, _⟩ := I.tuple hqx
    obtain ⟨its2, rv2, p2, _⟩ := I.tuple hqy
    obtain ⟨its3, rv3, p3, _⟩ := I.tuple hqz
    have hh' : X.A.in1.handled = none := I.ok.hd hc
    have W := GoesN.zip3 (prog := X.prog) (w := X.w) (A := X.A) (elts := elts) (x1 := kk) (pos := tpos) D (Draws.tuple hh' i1 a na its1.toArray) (Draws.tuple hh' i2 b nb its2.toArray) (Draws.tuple hh' i3 c nc its3.toArray)
    have l1 := rv1.length
    have l2 := rv2.length
    have l3 := rv3.length
    have sub : ∀ d, d ∈ [z, TO, i1, i2, i3] → d ∈ [z, TI, TO, i1, i2, i3] := fun d hd => by
      have e' : d = z ∨ d = TO ∨ d = i1 ∨ d = i2 ∨ d = i3 := by simpa using hd
      rcases e' with q | q | q | q | q <;> (rw [q]; simp)
    have hn : i = min (min its1.toArray.size its2.toArray.size) its3.toArray.size := by simp; omega
    subst hn
    exact W.stops s _ E ⟨hz, hTI, hTO, ⟨h1, p1⟩, ⟨h2, p2⟩, ⟨h3, p3⟩⟩ fun h' tk hk ht => I.turnedL (ch := [z, TO, i1, i2, i3]) hk (fun d hd => hf d (sub d hd))
  self := fun A i s Q E st h => wpAny_pyIter_zip st.1 h
def iZip3 (K : PySem.W.Frag) (ta : TA) : TI := fun σ H R => ta σ H fun vs H1 => ∃ a b c xs ys zs, vs = [.ref a, .ref b, .ref c] ∧ SqT K H1 a xs ∧ SqT K H1 b ys ∧ SqT K H1 c zs ∧ R (Itz3 K a b c) H1
theorem pi_zip3 {X : Cx} {e e2 e3 : Expr} {ta : TA} {p pos tpos : Pos} {elts : List Expr} {kk : Nat} (hg : Gl X "zip") (hm : X.mg "zip" = none) (ha : PA X [e, e2, e3] ta)
    (hs : starEach [e, e2, e3] X.env = (false, eval e X.env) :: starEach [e2, e3] X.env := by rfl) (hpl : (backTo pos (starEach [e2, e3] X.env)).any (·.1) = false := by rfl) :
    PI X (.Tuple elts kk tpos) (.Call (.Name "zip" p) [e, e2, e3] [] pos) (iZip3 X.K ta) := by
  refine ⟨fun pins s σ H R I h => ?_⟩
  refine Call_ (ld_blt I hg hm PyProof.Rows.boot_zip (PyProof.Rows.callWith_type1 (thn (ha.run pos pins s σ H _ I h) fun us s1 ⟨vs, H1, I1, r1, q1⟩ => ?_) hs hpl))
  obtain ⟨a, b, c, xs, ys, zs, ex, hqx, hqy, hqz, q⟩ := q1
  subst ex
  cases r1 with
  | cons r rr =>
  cases rr with
  | cons r' rr =>
  cases rr with
  | cons r'' rr =>
    cases rr
    cases r
    cases r'
    cases r''
    obtain ⟨its1, rv1, p1, _⟩ := I1.tuple hqx
    obtain ⟨its2, rv2, p2, _⟩ := I1.tuple hqy
    obtain ⟨its3, rv3, p3, _⟩ := I1.tuple hqz
    have la : a < s1.heap.objs.size := let ⟨_, g, _⟩ := p1; Heap.lt_size g
    have lb : b < s1.heap.objs.size := let ⟨_, g, _⟩ := p2; Heap.lt_size g
    have lc : c < s1.heap.objs.size := let ⟨_, g, _⟩ := p3; Heap.lt_size g
    refine zip_begins3 (begins_tuple a its1.toArray) (begins_tuple b its2.toArray) (begins_tuple c its3.toArray) p1 p2 p3 fun h' hz hTI hTO h1 h2 h3 hsz hk => wpAny_pyIter_zip hz ?_
    have I2 : Inv X pins σ H1 { s1 with heap := h' } := I1.kept (t' := s1.toks) hk
    have D : ZipSep3 (s1.heap.objs.size + 5) (s1.heap.objs.size + 3) (s1.heap.objs.size + 4) s1.heap.objs.size (s1.heap.objs.size + 1) (s1.heap.objs.size + 2) [s1.heap.objs.size, a] [s1.heap.objs.size + 1, b] [s1.heap.objs.size + 2, c] :=
      zip_sep3 (fp1 := [a]) (fp2 := [b]) (fp3 := [c]) (fun d hd => by rw [List.mem_singleton.mp hd]; exact la) (fun d hd => by rw [List.mem_singleton.mp hd]; exact lb) (fun d hd => by rw [List.mem_singleton.mp hd]; exact lc)
    refine ⟨s1.heap.objs.size + 5, [s1.heap.objs.size + 5, s1.heap.objs.size + 3, s1.heap.objs.size + 4, s1.heap.objs.size, s1.heap.objs.size + 1, s1.heap.objs.size + 2], _, _, H1, rfl, I2,
      turn_zip3 D (Nat.ne_of_lt la) (Nat.ne_of_lt (Nat.lt_succ_of_lt lb)) (Nat.ne_of_lt (Nat.lt_succ_of_lt (Nat.lt_succ_of_lt lc))), ⟨hz, hTI, ⟨_, _, _, hTO⟩, ⟨_, h1, rfl, rfl⟩, ⟨_, h2, rfl, rfl⟩, ⟨_, h3, rfl, rfl⟩⟩, fun d hd => ?_, q⟩
    have hle : s1.heap.objs.size ≤ d := by
      have e' : d = s1.heap.objs.size + 5 ∨ d = s1.heap.objs.size + 3 ∨ d = s1.heap.objs.size + 4 ∨ d = s1.heap.objs.size ∨ d = s1.heap.objs.size + 1 ∨ d = s1.heap.objs.size + 2 := by simpa using hd
      rcases e' with z | z | z | z | z | z
      · rw [z]; exact Nat.le_add_right _ _
      · rw [z]; exact Nat.le_add_right _ _
      · rw [z]; exact Nat.le_add_right _ _
      · rw [z]; exact Nat.le_refl _
      · rw [z]; exact Nat.le_add_right _ _
      · rw [z]; exact Nat.le_add_right _ _
    exact I1.fpOk hle (I1.hok.fresh hle)
theorem for_zip3 {K : PySem.W.Frag} {a b c : Addr} {xs ys zs : List V} {g : TG} {tb : TS} {D : Ends} {σ : L2.St} {H : Hp} (e1 : ys.length = xs.length) (e2 : zs.length = xs.length) (Pv : Nat → L2.St → Hp → Prop) (h0 : Pv 0 σ H) (hq : ∀ i σ H, Pv i σ H → SqT K H a xs ∧ SqT K H b ys ∧ SqT K H c zs)
    (hs : ∀ (i : Nat) (x y z : V) (T : Addr) (σ : L2.St) (H : Hp), xs[i]? = some x → ys[i]? = some y → zs[i]? = some z → Pv i σ H → H T = none → g (.ref T) σ (upd H T (.tup [x, y, z])) fun σ2 H2 => tb { D with nx := Pv (i + 1), ct := Pv (i + 1), bk := D.nx } σ2 H2) (hd : ∀ σ H, Pv xs.length σ H → D.nx σ H) :
    ∃ W : Nat → Nat → L2.St → Hp → Prop, (∃ m, W 0 m σ H) ∧ ∀ i m σ H, W i m σ H →
      ((Itz3 K a b c).stop i H ∧ D.nx σ H) ∨ ((Itz3 K a b c).go i H ∧ ∃ N : L2.St → Hp → Prop, (∀ σ' H', N σ' H' → ∃ m', m' < m ∧ W (i + 1) m' σ' H') ∧ ∀ v H', (Itz3 K a b c).yld i H v H' → g v σ H' fun σ2 H2 => tb { D with nx := N, ct := N, bk := D.nx } σ2 H2) := by
  refine ⟨fun i m σ H => m = xs.length - i ∧ i ≤ xs.length ∧ Pv i σ H, ⟨xs.length, rfl, Nat.zero_le _, h0⟩, ?_⟩
  rintro i m σ H ⟨rfl, hi, p⟩
  obtain ⟨qx, qy, qz⟩ := hq i σ H p
  by_cases hlt : i < xs.length
  · have hx : xs[i]? = some xs[i] := List.getElem?_eq_getElem hlt
    have hy : ys[i]? = some (ys[i]'(by omega)) := List.getElem?_eq_getElem (by omega)
    have hz : zs[i]? = some (zs[i]'(by omega)) := List.getElem?_eq_getElem (by omega)
    refine .inr ⟨⟨xs, ys, zs, _, _, _, qx, qy, qz, hx, hy, hz⟩, Pv (i + 1), fun σ' H' p' => ⟨xs.length - (i + 1), by omega, rfl, hlt, p'⟩, fun v H' y => ?_⟩
    obtain ⟨T, x', y', z', rfl, hT, rfl, f1, f2, f3⟩ := y
    exact hs i x' y' z' T σ H (f1 xs qx) (f2 ys qy) (f3 zs qz) p hT
  · have e : i = xs.length := by omega
    subst e
    exact .inl ⟨⟨xs, ys, zs, qx, qy, qz, by omega⟩, hd σ H p⟩
end OWN

end
section
namespace OWN
open PySem PySem.Spec PyProof.Rows L2
/-- a list comprehension over a range with a step -/
theorem lc_rangeC {lo c : Int} {n : Nat} {g : TG} {tt : TT} {te : TE} {vs : List Nat} {σ : L2.St} {H1 : Hp} {D : Addr} {Qd : Hp → Prop} (Pv : Nat → Hp → Prop) (h0 : Pv 0 (upd H1 D (.lst [])))
    (hs : ∀ i H, i < n → Pv i H → g (.int (lo + (i : Nat) * c)) (wipe σ vs) H fun σ2 H2 => wipe σ2 vs = wipe σ vs ∧ tt σ2 H2 fun b H3 =>
      if b = true then te σ2 H3 fun y H4 => ∃ acc, H4 D = some (.lst acc) ∧ acc.length < sizeLine ∧ Pv (i + 1) (upd H4 D (.lst (acc ++ [y]))) else Pv (i + 1) H3) (hd : ∀ H, Pv n H → Qd H) :
    ∃ W : Nat → Nat → Hp → Prop, (∃ m, W 0 m (upd H1 D (.lst []))) ∧ ∀ i m H, W i m H →
      ((Itc lo c n).stop i H ∧ Qd H) ∨ ((Itc lo c n).go i H ∧ ∃ Nx : Hp → Prop, (∀ H', Nx H' → ∃ m', m' < m ∧ W (i + 1) m' H') ∧ ∀ x H', (Itc lo c n).yld i H x H' → g x (wipe σ vs) H' fun σ2 H2 => wipe σ2 vs = wipe σ vs ∧ tt σ2 H2 fun b H3 =>
        if b = true then te σ2 H3 fun y H4 => ∃ acc, H4 D = some (.lst acc) ∧ acc.length < sizeLine ∧ Nx (upd H4 D (.lst (acc ++ [y]))) else Nx H3) := by
  refine ⟨fun i m H => m = n - i ∧ i ≤ n ∧ Pv i H, ⟨n, by simp, Nat.zero_le _, h0⟩, ?_⟩
  rintro i m H ⟨rfl, hi, p⟩
  by_cases hlt : i < n
  · refine .inr ⟨hlt, Pv (i + 1), fun H' p' => ⟨n - (i + 1), by omega, rfl, hlt, p'⟩, fun x H' y => ?_⟩
    obtain ⟨e, y⟩ := y
    subst e y
    exact hs i _ hlt p
  · have e : i = n := by omega
    subst e
    exact .inl ⟨Nat.le_refl _, hd H p⟩
/-- range(0, 2 * n, 2): n items -/
theorem rgc_two {n : Nat} (h : n ≤ 1000) : RgC 0 (2 * (n : Int)) 2 n := by
  have e := rangeSize_pos (len := 2 * (n : Int)) (c := 2) (by decide) (by omega)
  have e2 : Builtin.Range.rangeSize 0 (2 * (n : Int)) 2 = n := by rw [e]; omega
  refine ⟨by decide, by decide, ?_, e2⟩
  unfold Builtin.Range.small
  rw [e2]
  simp [Builtin.Range.rangeFitsLong]
  omega
theorem r_slL {K : PySem.W.Frag} {a : Addr} {xs : List V} {lo hi : Option Int} {H : Hp} {Q : VK} (h : H a = some (.lst xs)) (q : ∀ p, H p = none → Q (.ref p) (upd H p (.lst (cutV xs lo hi)))) : rSlL K (.ref a) lo hi H Q := ⟨a, xs, rfl, SqL.of h, q⟩
theorem r_bits {te : TE} {σ : L2.St} {H : Hp} {Q : VK} (h : te σ H fun x H1 => ∃ i, x = V.int i ∧ Q (.int (Builtin.Int.intBits i : Nat)) H1) : tBits te σ H Q := h
def rForZ (K : PySem.W.Frag) (g : TG) (tb : TS) (D : Ends) (σ : L2.St) (vs : List V) (H1 : Hp) : Prop := ∃ a b c xs ys zs, vs = [V.ref a, V.ref b, V.ref c] ∧ SqT K H1 a xs ∧ SqT K H1 b ys ∧ SqT K H1 c zs ∧
  ∃ W : Nat → Nat → L2.St → Hp → Prop, (∃ m, W 0 m σ H1) ∧ ∀ i m σ H, W i m σ H →
      ((Itz3 K a b c).stop i H ∧ D.nx σ H) ∨ ((Itz3 K a b c).go i H ∧ ∃ N : L2.St → Hp → Prop, (∀ σ' H', N σ' H' → ∃ m', m' < m ∧ W (i + 1) m' σ' H') ∧ ∀ v H', (Itz3 K a b c).yld i H v H' → g v σ H' fun σ2 H2 => tb { D with nx := N, ct := N, bk := D.nx } σ2 H2)
theorem r_forZ {K : PySem.W.Frag} {ta : TA} {g : TG} {tb : TS} {D : Ends} {σ : L2.St} {H : Hp} (h : ta σ H fun vs H1 => rForZ K g tb D σ vs H1) : tFor (iZip3 K ta) g tb D σ H := h
theorem r_rep1 {l : Addr} {k : Int} {x : V} {H : Hp} {Q : VK} (h : H l = some (.lst [x])) (h1 : -1000 ≤ k) (h2 : k ≤ 1000) (q : ∀ p, H p = none → Q (.ref p) (upd H p (.lst (List.replicate k.toNat x)))) : rRep (.ref l) (.int k) H Q := by
  refine ⟨l, k, [x], rfl, rfl, h, by omega, by omega, Nat.le_trans (m := 1000) (by simp; omega) (by decide), fun p hp => ?_⟩
  have e : (List.replicate k.toNat [x]).flatten = List.replicate k.toNat x := by simp
  rw [e]
  exact q p hp
theorem r_ext {l b : Addr} {xs zs : List V} {H : Hp} {Q : VK} (h : H l = some (.lst xs)) (h2 : H b = some (.lst zs)) (hz : xs.length + zs.length ≤ 1000) (q : Q .non (upd H l (.lst (xs ++ zs)))) : rExtend (.ref l) [.ref b] H Q :=
  ⟨l, b, xs, zs, rfl, rfl, h, h2, Nat.le_trans hz (by decide), q⟩
theorem r_extG {l b : Addr} {xs zs : List V} {H : Hp} {Q : VK} (h : H l = some (.lst xs)) (h2 : H b = some (.lst zs)) (hz : xs.length + zs.length ≤ 1000) (q : ∀ H', H' l = some (.lst (xs ++ zs)) → (∀ b' o, b' ≠ l → H b' = some o → H' b' = some o) → Q .non H') : rExtend (.ref l) [.ref b] H Q :=
  r_ext h h2 hz (q _ upd_same fun b' o hb e => by rw [upd_ne hb]; exact e)
def rForR (g : TG) (tb : TS) (D : Ends) (σ : L2.St) (vs : List V) (H1 : Hp) : Prop := ∃ j : Int, vs = [V.int j] ∧ -(2 ^ 62) ≤ j ∧ j < 2 ^ 62 ∧
  ∃ W : Nat → Nat → L2.St → Hp → Prop, (∃ m, W 0 m σ H1) ∧ ∀ i m σ H, W i m σ H →
      ((Itr 0 j.toNat).stop i H ∧ D.nx σ H) ∨ ((Itr 0 j.toNat).go i H ∧ ∃ N : L2.St → Hp → Prop, (∀ σ' H', N σ' H' → ∃ m', m' < m ∧ W (i + 1) m' σ' H') ∧ ∀ v H', (Itr 0 j.toNat).yld i H v H' → g v σ H' fun σ2 H2 => tb { D with nx := N, ct := N, bk := D.nx } σ2 H2)
theorem r_forR {ta : TA} {g : TG} {tb : TS} {D : Ends} {σ : L2.St} {H : Hp} (h : ta σ H fun vs H1 => rForR g tb D σ vs H1) : tFor (iRng1 ta) g tb D σ H := h
theorem r_forRx {g : TG} {tb : TS} {D : Ends} {σ : L2.St} {H : Hp} {j : Int} {n : Nat} (e : j = (n : Int)) (hb : n ≤ 1000000) (Pv : Nat → L2.St → Hp → Prop) (h0 : Pv 0 σ H)
    (hs : ∀ (i : Nat) σ H, i < n → Pv i σ H → g (.int (i : Int)) σ H fun σ2 H2 => tb { D with nx := Pv (i + 1), ct := Pv (i + 1), bk := D.nx } σ2 H2) (hd : ∀ σ H, Pv n σ H → D.nx σ H) : rForR g tb D σ [.int j] H := by
  subst e
  refine ⟨_, rfl, by omega, by omega, for_range (lo := 0) (n := n) Pv h0 (fun i σ H hi p => ?_) hd⟩
  have e0 : (0 : Int) + (i : Int) = (i : Int) := Int.zero_add _
  rw [e0]
  exact hs i σ H hi p
def rLcR (g : TG) (tt : TT) (te : TE) (vs0 : List Nat) (σ : L2.St) (vs : List V) (H1 : Hp) (Q : VK) : Prop := ∃ j : Int, vs = [V.int j] ∧ -(2 ^ 62) ≤ j ∧ j < 2 ^ 62 ∧ ∀ D, H1 D = none → ∃ W : Nat → Nat → Hp → Prop, (∃ m, W 0 m (upd H1 D (.lst []))) ∧ ∀ i m H, W i m H →
  ((Itr 0 j.toNat).stop i H ∧ Q (.ref D) H) ∨ ((Itr 0 j.toNat).go i H ∧ ∃ Nx : Hp → Prop, (∀ H', Nx H' → ∃ m', m' < m ∧ W (i + 1) m' H') ∧ ∀ x H', (Itr 0 j.toNat).yld i H x H' → g x (wipe σ vs0) H' fun σ2 H2 => wipe σ2 vs0 = wipe σ vs0 ∧ tt σ2 H2 fun b H3 =>
    if b = true then te σ2 H3 fun y H4 => ∃ acc, H4 D = some (.lst acc) ∧ acc.length < sizeLine ∧ Nx (upd H4 D (.lst (acc ++ [y]))) else Nx H3)
theorem r_lcR {ta : TA} {g : TG} {tt : TT} {te : TE} {vs0 : List Nat} {σ : L2.St} {H : Hp} {Q : VK} (h : ta σ H fun vs H1 => rLcR g tt te vs0 σ vs H1 Q) : tLc (iRng1 ta) g tt te vs0 σ H Q := h
theorem r_lcRx {g : TG} {tt : TT} {te : TE} {vs0 : List Nat} {σ : L2.St} {H1 : Hp} {Q : VK} {j : Int} {n : Nat} (e : j = (n : Int)) (hb : n ≤ 1000) (Pv : Addr → Nat → Hp → Prop) (h0 : ∀ D, H1 D = none → Pv D 0 (upd H1 D (.lst [])))
    (hs : ∀ D, H1 D = none → ∀ (i : Nat) H, i < n → Pv D i H → g (.int (i : Int)) (wipe σ vs0) H fun σ2 H2 => wipe σ2 vs0 = wipe σ vs0 ∧ tt σ2 H2 fun b H3 =>
      if b = true then te σ2 H3 fun y H4 => ∃ acc, H4 D = some (.lst acc) ∧ acc.length < sizeLine ∧ Pv D (i + 1) (upd H4 D (.lst (acc ++ [y]))) else Pv D (i + 1) H3) (hd : ∀ D, H1 D = none → ∀ H, Pv D n H → Q (.ref D) H) : rLcR g tt te vs0 σ [.int j] H1 Q := by
  subst e
  refine ⟨_, rfl, by omega, by omega, fun D hD => lc_range (lo := 0) (n := n) (Pv D) (h0 D hD) (fun i H hi p => ?_) (hd D hD)⟩
  have e0 : (0 : Int) + (i : Int) = (i : Int) := Int.zero_add _
  rw [e0]
  exact hs D hD i H hi p
theorem r_setN {l : Addr} {k : Nat} {v : V} {xs : List V} {H : Hp} {R : Hp → Prop} (hp : H l = some (.lst xs)) (hk : k < xs.length) (q : R (upd H l (.lst (xs.set k v)))) : rSetL (.ref l) (.int (k : Int)) v H R := ⟨l, xs, _, k, rfl, rfl, hp, RD.ixN_nat hk, q⟩
end OWN

end
section
/-! a frame's state by meanings: frozen values, and objects that may change -/
namespace SIM
open PySem L2
def Le (F F' : Hp) : Prop := ∀ b o, F b = some o → F' b = some o
theorem Le.refl {F : Hp} : Le F F := fun _ _ h => h
theorem Le.trans {F G H : Hp} (a : Le F G) (b : Le G H) : Le F H := fun c o h => b c o (a c o h)
theorem Le.free {F G : Hp} {p : Addr} (a : Le F G) (h : G p = none) : F p = none := by
  cases e : F p with
  | none => rfl
  | some o => rw [a p o e] at h; cases h
theorem Le.ext {F : Hp} {p : Addr} {o : HO} (h : F p = none) : Le F (upd F p o) := fun b u e => by rw [upd_ne (ne_of_none e h)]; exact e
theorem Le.ext2 {F H : Hp} {p : Addr} {o : HO} (a : Le F H) : Le (L2.upd F p o) (L2.upd H p o) := fun b u e => by
  by_cases hb : b = p
  · subst hb; rw [upd_same] at e ⊢; exact e
  · rw [upd_ne hb] at e ⊢; exact a b u e
/-- what a value means over the frozen heap -/
structure VP where
  p : Hp → V → Prop
  mono : ∀ {F F' : Hp} {v : V}, Le F F' → p F v → p F' v
class Rp (α : Type) where
  vp : α → VP
abbrev vp {α : Type} [Rp α] (a : α) : VP := Rp.vp a
inductive Al (F : Hp) : List V → List VP → Prop
  | nil : Al F [] []
  | cons {v : V} {p : VP} {vs : List V} {ps : List VP} (h : p.p F v) (t : Al F vs ps) : Al F (v :: vs) (p :: ps)
theorem Al.mono {F F' : Hp} {vs : List V} {ps : List VP} (k : Le F F') (h : Al F vs ps) : Al F' vs ps := by
  induction h with
  | nil => exact .nil
  | cons h _ ih => exact .cons (VP.mono _ k h) ih
theorem Al.len {F : Hp} {vs : List V} {ps : List VP} (h : Al F vs ps) : vs.length = ps.length := by
  induction h with
  | nil => rfl
  | cons h _ ih => rw [List.length_cons, List.length_cons, ih]
theorem Al.app {F : Hp} {vs us : List V} {ps qs : List VP} (h : Al F vs ps) (k : Al F us qs) : Al F (vs ++ us) (ps ++ qs) := by
  induction h with
  | nil => exact k
  | cons h _ ih => exact .cons h ih
theorem Al.get {F : Hp} {vs : List V} {ps : List VP} (h : Al F vs ps) : ∀ {i : Nat} {p : VP}, ps[i]? = some p → ∃ v, vs[i]? = some v ∧ p.p F v := by
  induction h with
  | nil => intro i p e; simp at e
  | @cons v p vs ps h t ih =>
    intro i q e
    cases i with
    | zero => rw [List.getElem?_cons_zero] at e; cases e; exact ⟨v, rfl, h⟩
    | succ i => rw [List.getElem?_cons_succ] at e; exact ih e
theorem Al.get' {F : Hp} {vs : List V} {ps : List VP} (h : Al F vs ps) : ∀ {i : Nat} {v : V}, vs[i]? = some v → ∃ p, ps[i]? = some p ∧ p.p F v := by
  induction h with
  | nil => intro i p e; simp at e
  | @cons v p vs ps h t ih =>
    intro i q e
    cases i with
    | zero => rw [List.getElem?_cons_zero] at e; cases e; exact ⟨p, rfl, h⟩
    | succ i => rw [List.getElem?_cons_succ] at e; exact ih e
theorem Al.set {F : Hp} {vs : List V} {ps : List VP} (h : Al F vs ps) {v : V} {p : VP} (k : p.p F v) : ∀ (i : Nat), Al F (vs.set i v) (ps.set i p) := by
  induction h with
  | nil => intro i; exact .nil
  | @cons v p vs ps h t ih =>
    intro i
    cases i with
    | zero => exact .cons k t
    | succ i => exact .cons h (ih i)
theorem Al.take {F : Hp} {vs : List V} {ps : List VP} (h : Al F vs ps) : ∀ (n : Nat), Al F (vs.take n) (ps.take n) := by
  induction h with
  | nil => intro n; simp; exact .nil
  | cons h _ ih =>
    intro n
    cases n with
    | zero => exact .nil
    | succ n => exact .cons h (ih n)
theorem Al.drop {F : Hp} {vs : List V} {ps : List VP} (h : Al F vs ps) : ∀ (n : Nat), Al F (vs.drop n) (ps.drop n) := by
  induction h with
  | nil => intro n; simp; exact .nil
  | cons h t ih =>
    intro n
    cases n with
    | zero => exact .cons h t
    | succ n => exact ih n
theorem Al.map {F : Hp} {α : Type} {f : α → VP} {g : α → V} (h : ∀ a, (f a).p F (g a)) : ∀ l : List α, Al F (l.map g) (l.map f)
  | [] => .nil
  | a :: l => .cons (h a) (Al.map h l)
/-- tuples, lists that never change -/
def tupP (ps : List VP) : VP where
  p F v := ∃ a vs, v = .ref a ∧ F a = some (.tup vs) ∧ Al F vs ps
  mono k h := let ⟨a, vs, e, h1, h2⟩ := h; ⟨a, vs, e, k _ _ h1, h2.mono k⟩
def lstP (ps : List VP) : VP where
  p F v := ∃ a vs, v = .ref a ∧ F a = some (.lst vs) ∧ Al F vs ps
  mono k h := let ⟨a, vs, e, h1, h2⟩ := h; ⟨a, vs, e, k _ _ h1, h2.mono k⟩
def eqP (w : V) : VP where
  p _ v := v = w
  mono _ h := h
def optP (x : Option VP) : VP where
  p F v := match x with
    | none => v = .non
    | some p => p.p F v ∧ v ≠ .non
  mono k h := by
    cases x with
    | none => exact h
    | some p => exact ⟨p.mono k h.1, h.2⟩
instance : Rp Int := ⟨fun i => eqP (.int i)⟩
instance : Rp Bool := ⟨fun b => eqP (.bl b)⟩
instance : Rp Str := ⟨fun s => eqP (.str s)⟩
instance : Rp Unit := ⟨fun _ => eqP .non⟩
instance {α : Type} [Rp α] : Rp (Option α) := ⟨fun x => optP (x.map vp)⟩
instance {α β : Type} [Rp α] [Rp β] : Rp (α × β) := ⟨fun x => tupP [vp x.1, vp x.2]⟩
structure T3 (α β γ : Type) where
  a : α
  b : β
  c : γ
  deriving DecidableEq
structure T4 (α β γ δ : Type) where
  a : α
  b : β
  c : γ
  d : δ
  deriving DecidableEq
instance {α β γ : Type} [Rp α] [Rp β] [Rp γ] : Rp (T3 α β γ) := ⟨fun x => tupP [vp x.a, vp x.b, vp x.c]⟩
instance {α β γ δ : Type} [Rp α] [Rp β] [Rp γ] [Rp δ] : Rp (T4 α β γ δ) := ⟨fun x => tupP [vp x.a, vp x.b, vp x.c, vp x.d]⟩
/-- a List means a tuple; a Lst a list that never changes -/
instance {α : Type} [Rp α] : Rp (List α) := ⟨fun l => tupP (l.map vp)⟩
structure Lst (α : Type) where
  l : List α
  deriving DecidableEq
instance {α : Type} [Rp α] : Rp (Lst α) := ⟨fun x => lstP (x.l.map vp)⟩
/-- an object that may change: what is so of the frozen heap, the heap, its address, its footprint -/
structure OP where
  p : Hp → Hp → Addr → List Addr → Prop
  mono : ∀ {F F' H H' : Hp} {a : Addr} {fp : List Addr}, Le F F' → (∀ b ∈ fp, H' b = H b) → p F H a fp → p F' H' a fp
  mine : Bool := false
abbrev OP.tag (t : Bool) (q : OP) : OP := { q with mine := t }
def lstG (t : Bool) (ps : List VP) : OP where
  mine := t
  p F H a fp := fp = [a] ∧ ∃ vs, H a = some (.lst vs) ∧ Al F vs ps
  mono k e h := by
    obtain ⟨rfl, vs, h1, h2⟩ := h
    exact ⟨rfl, vs, (e _ (List.mem_singleton.mpr rfl)).trans h1, h2.mono k⟩
abbrev lstO : List VP → OP := lstG true
abbrev lstA : List VP → OP := lstG false
/-- a slot: unknown, a value, the j-th object -/
inductive Cell where
  | u
  | v (p : VP)
  | o (j : Nat)
/-- a def's frame: the heaps at its entry, the addresses of the objects handed to it, all that they own -/
structure Frm where
  F0 : Hp
  H0 : Hp
  as : List Addr
  M : List (List Addr)
def Ck (F : Hp) (A : List (Addr × List Addr)) (x : Option V) : Cell → Prop
  | .u => True
  | .v p => ∃ v, x = some v ∧ p.p F v
  | .o j => ∃ a fp, x = some (.ref a) ∧ A[j]? = some (a, fp)
inductive Cks (F : Hp) (A : List (Addr × List Addr)) : St → List Cell → Prop
  | nil : Cks F A [] []
  | cons {x : Option V} {c : Cell} {σ : St} {C : List Cell} (h : Ck F A x c) (t : Cks F A σ C) : Cks F A (x :: σ) (c :: C)
/-- the j-th object stands -/
structure Oj (Φ : Frm) (j : Nat) (F H : Hp) (p : OP) (a : Addr) (fp : List Addr) : Prop where
  ok : p.p F H a fp
  fr : ∀ b ∈ fp, F b = none
  al : ∀ b ∈ fp, H b ≠ none
  m : ∀ b ∈ fp, (p.mine = false ∧ b ∈ Φ.M.getD j []) ∨ Φ.H0 b = none
structure Ev (Φ : Frm) (F H : Hp) (σ : St) (C : List Cell) (O : List (Option OP)) (A : List (Addr × List Addr)) : Prop where
  ck : Cks F A σ C
  len : A.length = O.length
  ob : ∀ (j : Nat) (p : OP), O[j]? = some (some p) → ∃ a fp, A[j]? = some (a, fp) ∧ Oj Φ j F H p a fp
  no : ∀ (j : Nat), O[j]? = some none → ∃ a, A[j]? = some (a, [])
  dj : ∀ (i j : Nat) (a c : Addr) (f g : List Addr), A[i]? = some (a, f) → A[j]? = some (c, g) → i ≠ j → ∀ b ∈ f, b ∉ g
  pre : (A.map (·.1)).take Φ.as.length = Φ.as
  fh : Le F H
  ff : Le Φ.F0 F
  kp : ∀ b o, Φ.H0 b = some o → b ∉ Φ.M.flatten → H b = some o
  nw : ∀ b, F b ≠ none → Φ.F0 b ≠ none ∨ Φ.H0 b = none
  dm : ∀ b, Φ.H0 b ≠ none → H b ≠ none
  pm : ∀ (j : Nat) (p : OP), O[j]? = some (some p) → p.mine = true → Φ.as.length ≤ j
section
variable {Φ : Frm} {F F' H H' : Hp} {σ : St} {C : List Cell} {O : List (Option OP)} {A : List (Addr × List Addr)} {p a : Addr} {o : HO} {i j : Nat}
theorem Ck.mono {x : Option V} {c : Cell} (k : Le F F') (h : Ck F A x c) : Ck F' A x c := by
  cases c with
  | u => trivial
  | v p => obtain ⟨v, e, h⟩ := h; exact ⟨v, e, p.mono k h⟩
  | o j => exact h
theorem Cks.mono (k : Le F F') (h : Cks F A σ C) : Cks F' A σ C := by
  induction h with
  | nil => exact .nil
  | cons h _ ih => exact .cons (h.mono k) ih
theorem Cks.len (h : Cks F A σ C) : σ.length = C.length := by
  induction h with
  | nil => rfl
  | cons h _ ih => rw [List.length_cons, List.length_cons, ih]
theorem Cks.get (h : Cks F A σ C) : ∀ {i : Nat} {c : Cell}, C[i]? = some c → ∃ x, σ[i]? = some x ∧ Ck F A x c := by
  induction h with
  | nil => intro i c e; simp at e
  | @cons x c σ C h t ih =>
    intro i d e
    cases i with
    | zero => rw [List.getElem?_cons_zero] at e; cases e; exact ⟨x, rfl, h⟩
    | succ i => rw [List.getElem?_cons_succ] at e; exact ih e
theorem Cks.set (h : Cks F A σ C) {x : Option V} {c : Cell} (k : Ck F A x c) : ∀ i : Nat, Cks F A (σ.set i x) (C.set i c) := by
  induction h with
  | nil => intro i; exact .nil
  | @cons x c σ C h t ih =>
    intro i
    cases i with
    | zero => exact .cons k t
    | succ i => exact .cons h (ih i)
theorem Cks.imp {A' : List (Addr × List Addr)} (k : ∀ (j : Nat) a fp, A[j]? = some (a, fp) → ∃ fp', A'[j]? = some (a, fp')) (h : Cks F A σ C) : Cks F A' σ C := by
  induction h with
  | nil => exact .nil
  | @cons x c σ C h t ih =>
    refine .cons ?_ ih
    cases c with
    | u => trivial
    | v p => exact h
    | o j =>
      obtain ⟨a, fp, e, e2⟩ := h
      obtain ⟨fp', e3⟩ := k j a fp e2
      exact ⟨a, fp', e, e3⟩
theorem mem_M {Φ : Frm} {j : Nat} {b : Addr} (h : b ∈ Φ.M.getD j []) : b ∈ Φ.M.flatten := by
  rw [List.getD_eq_getElem?_getD] at h
  cases e : Φ.M[j]? with
  | none => rw [e] at h; exact absurd h List.not_mem_nil
  | some l => rw [e] at h; exact List.mem_flatten.mpr ⟨l, List.mem_of_getElem? e, h⟩
theorem Oj.mono {q : OP} {fp : List Addr} (h : Oj Φ j F H q a fp) (k : Le F F') (k2 : ∀ b ∈ fp, F' b = none) (e : ∀ b ∈ fp, H' b = H b) : Oj Φ j F' H' q a fp :=
  ⟨q.mono k e h.ok, k2, fun b hb => by rw [e b hb]; exact h.al b hb, h.m⟩
/-- a new object that never changes -/
theorem Ev.new (E : Ev Φ F H σ C O A) (hp : H p = none) : Ev Φ (upd F p o) (upd H p o) σ C O A := by
  have hF := E.fh.free hp
  have hne : ∀ b, H b ≠ none → b ≠ p := fun b h e => h (e ▸ hp)
  refine ⟨E.ck.mono (Le.ext hF), E.len, fun j q e => ?_, E.no, E.dj, E.pre, E.fh.ext2, E.ff.trans (Le.ext hF), fun b u e hm => ?_, fun b hb => ?_, fun b hb => ?_, E.pm⟩
  · obtain ⟨a, fp, ha, h⟩ := E.ob j q e
    exact ⟨a, fp, ha, h.mono (Le.ext hF) (fun b hb => by rw [upd_ne (hne b (h.al b hb))]; exact h.fr b hb) fun b hb => upd_ne (hne b (h.al b hb))⟩
  · have := E.kp b u e hm
    rw [upd_ne (hne b (by rw [this]; exact Option.some_ne_none _))]; exact this
  · by_cases h : b = p
    · refine .inr ?_
      subst h
      cases e : Φ.H0 b with
      | none => rfl
      | some u => exact absurd hp (E.dm b (by rw [e]; exact Option.some_ne_none _))
    · rw [upd_ne h] at hb; exact E.nw b hb
  · have := E.dm b hb
    rw [upd_ne (hne b this)]; exact this
/-- a new object beside -/
theorem Ev.beside (E : Ev Φ F H σ C O A) (hp : H p = none) : Ev Φ F (upd H p o) σ C O A := by
  have hne : ∀ b, H b ≠ none → b ≠ p := fun b h e => h (e ▸ hp)
  refine ⟨E.ck, E.len, fun j q e => ?_, E.no, E.dj, E.pre, fun b u e => ?_, E.ff, fun b u e hm => ?_, E.nw, fun b hb => ?_, E.pm⟩
  · obtain ⟨a, fp, ha, h⟩ := E.ob j q e
    exact ⟨a, fp, ha, h.mono Le.refl h.fr fun b hb => upd_ne (hne b (h.al b hb))⟩
  · have := E.fh b u e
    rw [upd_ne (hne b (by rw [this]; exact Option.some_ne_none _))]; exact this
  · have := E.kp b u e hm
    rw [upd_ne (hne b (by rw [this]; exact Option.some_ne_none _))]; exact this
  · have := E.dm b hb
    rw [upd_ne (hne b this)]; exact this
theorem Ev.fresh0 (E : Ev Φ F H σ C O A) (hp : H p = none) : Φ.H0 p = none := by
  cases e : Φ.H0 p with
  | none => rfl
  | some u => exact absurd hp (E.dm p (by rw [e]; exact Option.some_ne_none _))
theorem Ev.asl (E : Ev Φ F H σ C O A) : Φ.as.length ≤ O.length := by
  have h := congrArg List.length E.pre
  rw [List.length_take, List.length_map, E.len] at h; omega
theorem pm_app (E : Ev Φ F H σ C O A) {q : Option OP} : ∀ (j : Nat) (p : OP), (O ++ [q])[j]? = some (some p) → p.mine = true → Φ.as.length ≤ j := fun j p e hp => by
  by_cases hj : j < O.length
  · rw [List.getElem?_append_left hj] at e; exact E.pm j p e hp
  · have := E.asl; omega
theorem pm_set (E : Ev Φ F H σ C O A) {q : Option OP} {m : Nat} (hq : ∀ p, q = some p → p.mine = true → Φ.as.length ≤ m) : ∀ (j : Nat) (p : OP), (O.set m q)[j]? = some (some p) → p.mine = true → Φ.as.length ≤ j := fun j p e hp => by
  by_cases hj : j = m
  · subst hj
    rcases Nat.lt_or_ge j O.length with h | h
    · rw [List.getElem?_set_self h] at e
      exact hq p (Option.some.inj e) hp
    · rw [List.set_eq_of_length_le h] at e; exact E.pm j p e hp
  · rw [List.getElem?_set_ne (Ne.symm hj)] at e; exact E.pm j p e hp
/-- a new object that may change: the last one -/
theorem Ev.own {q : OP} {fp : List Addr} (E : Ev Φ F H σ C O A) (E' : Ev Φ F H' σ C O A) (h1 : q.p F H' a fp) (h2 : ∀ b ∈ fp, H b = none ∧ H' b ≠ none) : Ev Φ F H' σ C (O ++ [some q]) (A ++ [(a, fp)]) := by
  have lt : ∀ {j x}, A[j]? = some x → j < A.length := fun h => (List.getElem?_eq_some_iff.mp h).1
  have getA : ∀ {j x}, A[j]? = some x → (A ++ [(a, fp)])[j]? = some x := fun h => by rw [List.getElem?_append_left (lt h)]; exact h
  have gl : ∀ {j x}, (A ++ [(a, fp)])[j]? = some x → A[j]? = some x ∨ (j = A.length ∧ x = (a, fp)) := fun {j x} h => by
    by_cases hj : j < A.length
    · rw [List.getElem?_append_left hj] at h; exact .inl h
    · have h' := (List.getElem?_eq_some_iff.mp h).1
      rw [List.length_append, List.length_singleton] at h'
      have e : j = A.length := by omega
      subst e
      rw [List.getElem?_append_right (Nat.le_refl _), Nat.sub_self] at h
      exact .inr ⟨rfl, (Option.some.inj h).symm⟩
  have old : ∀ {j c g}, A[j]? = some (c, g) → ∀ b ∈ g, H b ≠ none := fun {j c g} h b hb => by
    have hj : j < O.length := by rw [← E.len]; exact lt h
    cases e : O[j] with
    | none =>
      obtain ⟨a', h'⟩ := E.no j (by rw [List.getElem?_eq_getElem hj, e])
      rw [h] at h'; cases h'; exact absurd hb List.not_mem_nil
    | some p =>
      obtain ⟨a', fp', h', k⟩ := E.ob j p (by rw [List.getElem?_eq_getElem hj, e])
      rw [h] at h'; cases h'
      exact k.al b hb
  refine ⟨E'.ck.imp fun j a fp h => ⟨fp, getA h⟩, by simp [E.len], fun j q' e => ?_, fun j e => ?_, fun i j c d f g h1 h2' ne b hb hb' => ?_, ?_, E'.fh, E'.ff, E'.kp, E'.nw, E'.dm, pm_app E'⟩
  · by_cases hj : j < O.length
    · rw [List.getElem?_append_left hj] at e
      obtain ⟨c, g, h, k⟩ := E'.ob j q' e
      exact ⟨c, g, getA h, k⟩
    · have hl := (List.getElem?_eq_some_iff.mp e).1
      rw [List.length_append, List.length_singleton] at hl
      have e' : j = O.length := by omega
      subst e'
      rw [List.getElem?_append_right (Nat.le_refl _), Nat.sub_self] at e
      cases e
      refine ⟨a, fp, by rw [← E.len, List.getElem?_append_right (Nat.le_refl _), Nat.sub_self]; rfl, h1, fun b hb => E.fh.free (h2 b hb).1, fun b hb => (h2 b hb).2, fun b hb => .inr (E.fresh0 (h2 b hb).1)⟩
  · by_cases hj : j < O.length
    · rw [List.getElem?_append_left hj] at e
      obtain ⟨c, h⟩ := E'.no j e
      exact ⟨c, getA h⟩
    · have hl := (List.getElem?_eq_some_iff.mp e).1
      rw [List.length_append, List.length_singleton] at hl
      have e' : j = O.length := by omega
      subst e'
      rw [List.getElem?_append_right (Nat.le_refl _), Nat.sub_self] at e
      cases e
  · rcases gl h1 with h1 | ⟨rfl, x1⟩
    · rcases gl h2' with h2' | ⟨rfl, x2⟩
      · exact E.dj i j c d f g h1 h2' ne b hb hb'
      · cases x2
        exact old h1 b hb (h2 b hb').1
    · rcases gl h2' with h2' | ⟨rfl, x2⟩
      · cases x1
        exact old h2' b hb' (h2 b hb).1
      · exact ne rfl
  · have hp := E.pre
    have hl : Φ.as.length ≤ (A.map (·.1)).length := by
      have h := congrArg List.length hp
      rw [List.length_take] at h; omega
    rw [List.map_append, List.take_append_of_le_length hl]
    exact hp
theorem Ev.val {p : VP} (E : Ev Φ F H σ C O A) (e : C[i]? = some (.v p)) : ∃ v, σ[i]? = some (some v) ∧ p.p F v := by
  obtain ⟨x, h, v, rfl, k⟩ := E.ck.get e
  exact ⟨v, h, k⟩
theorem Ev.obj {p : OP} (E : Ev Φ F H σ C O A) (e : C[i]? = some (.o j)) (e2 : O[j]? = some (some p)) : ∃ a fp, σ[i]? = some (some (.ref a)) ∧ A[j]? = some (a, fp) ∧ Oj Φ j F H p a fp := by
  obtain ⟨x, h, a, fp, rfl, k⟩ := E.ck.get e
  obtain ⟨a', fp', k', q⟩ := E.ob j p e2
  rw [k] at k'; cases k'
  exact ⟨a, fp, h, k, q⟩
theorem Ev.slot (E : Ev Φ F H σ C O A) {x : Option V} {c : Cell} (k : Ck F A x c) (i : Nat) : Ev Φ F H (σ.set i x) (C.set i c) O A :=
  ⟨E.ck.set k i, E.len, E.ob, E.no, E.dj, E.pre, E.fh, E.ff, E.kp, E.nw, E.dm, E.pm⟩
/-- the j-th object is changed: its own places, and new ones -/
theorem Ev.write {q q' : OP} {fp fp' : List Addr} (E : Ev Φ F H σ C O A) (hq : O[j]? = some (some q)) (hA : A[j]? = some (a, fp)) (hm : q'.mine = q.mine) (ok : q'.p F H' a fp')
    (keep : ∀ b, b ∉ fp → H b ≠ none → H' b = H b) (dom : ∀ b, H b ≠ none → H' b ≠ none) (new : ∀ b ∈ fp', (b ∈ fp ∨ H b = none) ∧ H' b ≠ none) : Ev Φ F H' σ C (O.set j (some q')) (A.set j (a, fp')) := by
  obtain ⟨a0, fp0, hA0, J⟩ := E.ob j q hq
  rw [hA] at hA0; cases hA0
  have hjA : j < A.length := (List.getElem?_eq_some_iff.mp hA).1
  have hjO : j < O.length := by rw [← E.len]; exact hjA
  have keepF : ∀ b u, F b = some u → H' b = some u := fun b u e => by
    have h1 := E.fh b u e
    rw [keep b (fun hb => by rw [J.fr b hb] at e; cases e) (by rw [h1]; exact Option.some_ne_none _)]; exact h1
  have oldA : ∀ {i c g}, A[i]? = some (c, g) → i ≠ j → ∀ b ∈ g, b ∉ fp ∧ H b ≠ none := fun {i c g} h ne b hb => by
    refine ⟨E.dj i j c a g fp h hA ne b hb, ?_⟩
    have hi : i < O.length := by rw [← E.len]; exact (List.getElem?_eq_some_iff.mp h).1
    cases e : O[i] with
    | none =>
      obtain ⟨a', h'⟩ := E.no i (by rw [List.getElem?_eq_getElem hi, e])
      rw [h] at h'; cases h'; exact absurd hb List.not_mem_nil
    | some p =>
      obtain ⟨a', fp', h', k⟩ := E.ob i p (by rw [List.getElem?_eq_getElem hi, e])
      rw [h] at h'; cases h'
      exact k.al b hb
  refine ⟨E.ck.imp fun i c g h => ?_, by simp [E.len], fun i p e => ?_, fun i e => ?_, fun i k c d f g h1 h2 ne b hb hb' => ?_, ?_, keepF, E.ff, fun b u e hm => ?_, E.nw, fun b hb => dom b (E.dm b hb), pm_set E fun p e hp => by cases e; exact E.pm j q hq (by rw [← hm]; exact hp)⟩
  · by_cases hi : i = j
    · subst hi
      rw [hA] at h; cases h
      exact ⟨fp', by rw [List.getElem?_set_self hjA]⟩
    · exact ⟨g, by rw [List.getElem?_set_ne (Ne.symm hi)]; exact h⟩
  · by_cases hi : i = j
    · subst hi
      rw [List.getElem?_set_self hjO] at e; cases e
      exact ⟨a, fp', by rw [List.getElem?_set_self hjA], ok, fun b hb => ((new b hb).1).elim (fun h => J.fr b h) (fun h => E.fh.free h), fun b hb => (new b hb).2, fun b hb => ((new b hb).1).elim (fun h => (J.m b h).imp (fun z => ⟨hm.trans z.1, z.2⟩) id) (fun h => .inr (E.fresh0 h))⟩
    · rw [List.getElem?_set_ne (Ne.symm hi)] at e
      obtain ⟨c, g, h, k⟩ := E.ob i p e
      exact ⟨c, g, by rw [List.getElem?_set_ne (Ne.symm hi)]; exact h, k.mono Le.refl k.fr fun b hb => keep b (oldA h hi b hb).1 (oldA h hi b hb).2⟩
  · by_cases hi : i = j
    · subst hi
      rw [List.getElem?_set_self hjO] at e; cases e
    · rw [List.getElem?_set_ne (Ne.symm hi)] at e
      obtain ⟨c, h⟩ := E.no i e
      exact ⟨c, by rw [List.getElem?_set_ne (Ne.symm hi)]; exact h⟩
  · by_cases hi : i = j
    · subst hi
      rw [List.getElem?_set_self hjA] at h1; cases h1
      rw [List.getElem?_set_ne ne] at h2
      rcases (new b hb).1 with z | z
      · exact (oldA h2 (Ne.symm ne) b hb').1 z
      · exact (oldA h2 (Ne.symm ne) b hb').2 z
    · rw [List.getElem?_set_ne (Ne.symm hi)] at h1
      by_cases hk : k = j
      · subst hk
        rw [List.getElem?_set_self hjA] at h2; cases h2
        rcases (new b hb').1 with z | z
        · exact (oldA h1 hi b hb).1 z
        · exact (oldA h1 hi b hb).2 z
      · rw [List.getElem?_set_ne (Ne.symm hk)] at h2
        exact E.dj i k c d f g h1 h2 ne b hb hb'
  · have e : (A.set j (a, fp')).map (·.1) = A.map (·.1) := by
      rw [List.map_set]
      refine List.ext_getElem? fun n => ?_
      by_cases hn : n = j
      · subst hn
        rw [List.getElem?_set_self (by simpa using hjA), List.getElem?_map, hA]; rfl
      · rw [List.getElem?_set_ne (Ne.symm hn)]
    rw [e]; exact E.pre
  · have h1 := E.kp b u e hm
    have hb : b ∉ fp := fun hb => by
      rcases J.m b hb with z | z
      · exact hm (mem_M z.2)
      · rw [z] at e; cases e
    rw [keep b hb (by rw [h1]; exact Option.some_ne_none _)]; exact h1

/-- what stands in the footprints is tracked -/
theorem Ev.alA {c : Addr} {g : List Addr} (E : Ev Φ F H σ C O A) (h : A[j]? = some (c, g)) : ∀ b ∈ g, H b ≠ none ∧ F b = none := fun b hb => by
  have hj : j < O.length := by rw [← E.len]; exact (List.getElem?_eq_some_iff.mp h).1
  cases e : O[j] with
  | none =>
    obtain ⟨a', h'⟩ := E.no j (by rw [List.getElem?_eq_getElem hj, e])
    rw [h] at h'; cases h'; exact absurd hb List.not_mem_nil
  | some p =>
    obtain ⟨a', fp', h', k⟩ := E.ob j p (by rw [List.getElem?_eq_getElem hj, e])
    rw [h] at h'; cases h'
    exact ⟨k.al b hb, k.fr b hb⟩
theorem Ev.mA {c : Addr} {g : List Addr} (E : Ev Φ F H σ C O A) (h : A[j]? = some (c, g)) : ∀ b ∈ g, b ∈ Φ.M.getD j [] ∨ Φ.H0 b = none := fun b hb => by
  have hj : j < O.length := by rw [← E.len]; exact (List.getElem?_eq_some_iff.mp h).1
  cases e : O[j] with
  | none =>
    obtain ⟨a', h'⟩ := E.no j (by rw [List.getElem?_eq_getElem hj, e])
    rw [h] at h'; cases h'; exact absurd hb List.not_mem_nil
  | some p =>
    obtain ⟨a', fp', h', k⟩ := E.ob j p (by rw [List.getElem?_eq_getElem hj, e])
    rw [h] at h'; cases h'
    exact (k.m b hb).imp (fun z => z.2) id
/-- a list of one's own is never changed again -/
theorem Ev.freeze {ps : List VP} (E : Ev Φ F H σ C O A) (hO : O[j]? = some (some (lstO ps))) (hC : C[i]? = some (.o j)) :
    ∃ F' A', Le F F' ∧ Ev Φ F' H σ (C.set i (.v (lstP ps))) (O.set j none) A' := by
  obtain ⟨a, fp, hs, hA, J⟩ := E.obj hC hO
  obtain ⟨rfl, vs, hv, al⟩ := J.ok
  have hFa : F a = none := J.fr a (List.mem_singleton.mpr rfl)
  have hjA : j < A.length := (List.getElem?_eq_some_iff.mp hA).1
  have hjO : j < O.length := by rw [← E.len]; exact hjA
  have ha0 : Φ.H0 a = none := ((J.m a (List.mem_singleton.mpr rfl))).elim (fun h => nomatch h.1) id
  have hle : Le F (upd F a (.lst vs)) := Le.ext hFa
  refine ⟨upd F a (.lst vs), A.set j (a, []), hle, ?_, by simp [E.len], fun k q e => ?_, fun k e => ?_, fun k l c d f g h1 h2 ne b hb hb' => ?_, ?_, fun b u e => ?_, E.ff.trans hle, E.kp, fun b hb => ?_, E.dm, pm_set E (fun p e => nomatch e)⟩
  · have h1 : Cks (upd F a (.lst vs)) A σ (C.set i (.v (lstP ps))) := by
      have hk : Ck (upd F a (.lst vs)) A (some (.ref a)) (.v (lstP ps)) := ⟨_, rfl, a, vs, rfl, upd_same, al.mono hle⟩
      have h2 := (E.ck.mono hle).set hk i
      have e : σ.set i (some (.ref a)) = σ := by
        refine List.ext_getElem? fun n => ?_
        by_cases hn : n = i
        · subst hn
          rw [List.getElem?_set_self (List.getElem?_eq_some_iff.mp hs).1, hs]
        · rw [List.getElem?_set_ne (Ne.symm hn)]
      rw [e] at h2; exact h2
    refine h1.imp fun k c fp e => ?_
    by_cases hk : k = j
    · subst hk
      rw [hA] at e; cases e
      exact ⟨[], by rw [List.getElem?_set_self hjA]⟩
    · exact ⟨fp, by rw [List.getElem?_set_ne (Ne.symm hk)]; exact e⟩
  · by_cases hk : k = j
    · subst hk
      rw [List.getElem?_set_self hjO] at e; cases e
    · rw [List.getElem?_set_ne (Ne.symm hk)] at e
      obtain ⟨c, g, h, K⟩ := E.ob k q e
      refine ⟨c, g, by rw [List.getElem?_set_ne (Ne.symm hk)]; exact h, K.mono hle (fun b hb => ?_) fun _ _ => rfl⟩
      rw [upd_ne (fun z => E.dj k j c a g [a] h hA hk b hb (List.mem_singleton.mpr z))]; exact K.fr b hb
  · by_cases hk : k = j
    · subst hk
      exact ⟨a, by rw [List.getElem?_set_self hjA]⟩
    · rw [List.getElem?_set_ne (Ne.symm hk)] at e
      obtain ⟨c, h⟩ := E.no k e
      exact ⟨c, by rw [List.getElem?_set_ne (Ne.symm hk)]; exact h⟩
  · by_cases hk : k = j
    · subst hk
      rw [List.getElem?_set_self hjA] at h1; cases h1; exact absurd hb List.not_mem_nil
    · by_cases hl : l = j
      · subst hl
        rw [List.getElem?_set_self hjA] at h2; cases h2; exact absurd hb' List.not_mem_nil
      · rw [List.getElem?_set_ne (Ne.symm hk)] at h1
        rw [List.getElem?_set_ne (Ne.symm hl)] at h2
        exact E.dj k l c d f g h1 h2 ne b hb hb'
  · have e : (A.set j (a, [])).map (·.1) = A.map (·.1) := by
      rw [List.map_set]
      refine List.ext_getElem? fun n => ?_
      by_cases hn : n = j
      · subst hn
        rw [List.getElem?_set_self (by simpa using hjA), List.getElem?_map, hA]; rfl
      · rw [List.getElem?_set_ne (Ne.symm hn)]
    rw [e]; exact E.pre
  · by_cases hb : b = a
    · subst hb; rw [upd_same] at e; cases e; exact hv
    · rw [upd_ne hb] at e; exact E.fh b u e
  · by_cases h : b = a
    · subst h; exact .inr ha0
    · rw [upd_ne h] at hb; exact E.nw b hb
/-- knowing less: slots forgotten, later objects dropped -/
inductive Wk : List Cell → List Cell → Prop
  | nil : Wk [] []
  | same {c : Cell} {C D : List Cell} (h : Wk C D) : Wk (c :: C) (c :: D)
  | drop {c : Cell} {C D : List Cell} (h : Wk C D) : Wk (c :: C) (.u :: D)
theorem Wk.refl : ∀ C : List Cell, Wk C C
  | [] => .nil
  | _ :: C => .same (Wk.refl C)
theorem Wk.ck {D : List Cell} (w : Wk C D) : ∀ {σ : St}, Cks F A σ C → Cks F A σ D := by
  induction w with
  | nil => intro σ h; exact h
  | same _ ih => intro σ h; cases h with | cons h t => exact .cons h (ih t)
  | drop _ ih => intro σ h; cases h with | cons h t => exact .cons trivial (ih t)
theorem Ev.weak {D : List Cell} (E : Ev Φ F H σ C O A) (w : Wk C D) : Ev Φ F H σ D O A :=
  ⟨w.ck E.ck, E.len, E.ob, E.no, E.dj, E.pre, E.fh, E.ff, E.kp, E.nw, E.dm, E.pm⟩
def Cell.lt (n : Nat) : Cell → Bool
  | .o j => decide (j < n)
  | _ => true
theorem Cks.take {n : Nat} (h : Cks F A σ C) (hc : C.all (Cell.lt n) = true) : Cks F (A.take n) σ C := by
  induction h with
  | nil => exact .nil
  | @cons x c σ C h t ih =>
    rw [List.all_cons, Bool.and_eq_true] at hc
    refine .cons ?_ (ih hc.2)
    cases c with
    | u => trivial
    | v p => exact h
    | o j =>
      obtain ⟨a, fp, e, e2⟩ := h
      have hj : j < n := of_decide_eq_true hc.1
      exact ⟨a, fp, e, by rw [List.getElem?_take_of_lt hj]; exact e2⟩
theorem Ev.trunc {n : Nat} (E : Ev Φ F H σ C O A) (hc : C.all (Cell.lt n) = true) (hn : Φ.as.length ≤ n) : Ev Φ F H σ C (O.take n) (A.take n) := by
  have up : ∀ {α : Type} {l : List α} {j : Nat} {x : α}, (l.take n)[j]? = some x → l[j]? = some x ∧ j < n := fun {α l j x} h => by
    have hj := (List.getElem?_eq_some_iff.mp h).1
    rw [List.length_take] at hj
    have hj' : j < n := by omega
    rw [List.getElem?_take_of_lt hj'] at h
    exact ⟨h, hj'⟩
  refine ⟨E.ck.take hc, by rw [List.length_take, List.length_take, E.len], fun j p e => ?_, fun j e => ?_, fun i j c d f g h1 h2 ne => E.dj i j c d f g (up h1).1 (up h2).1 ne, ?_, E.fh, E.ff, E.kp, E.nw, E.dm, fun j p e => E.pm j p (up e).1⟩
  · obtain ⟨e, hj⟩ := up e
    obtain ⟨a, fp, h, k⟩ := E.ob j p e
    exact ⟨a, fp, by rw [List.getElem?_take_of_lt hj]; exact h, k⟩
  · obtain ⟨e, hj⟩ := up e
    obtain ⟨a, h⟩ := E.no j e
    exact ⟨a, by rw [List.getElem?_take_of_lt hj]; exact h⟩
  · rw [List.map_take, List.take_take, Nat.min_eq_left hn]; exact E.pre
/-- an object known by less -/
theorem Ev.reop {q q' : OP} (E : Ev Φ F H σ C O A) (hO : O[j]? = some (some q)) (h : ∀ F H a fp, q.p F H a fp → q'.p F H a fp) (hm : q'.mine = q.mine) : Ev Φ F H σ C (O.set j (some q')) A := by
  have hj : j < O.length := (List.getElem?_eq_some_iff.mp hO).1
  refine ⟨E.ck, by simp [E.len], fun k p e => ?_, fun k e => ?_, E.dj, E.pre, E.fh, E.ff, E.kp, E.nw, E.dm, pm_set E fun p e hp => by cases e; exact E.pm j q hO (by rw [← hm]; exact hp)⟩
  · by_cases hk : k = j
    · subst hk
      rw [List.getElem?_set_self hj] at e; cases e
      obtain ⟨a, fp, hA, J⟩ := E.ob k q hO
      exact ⟨a, fp, hA, h _ _ _ _ J.ok, J.fr, J.al, fun b hb => by rw [hm]; exact J.m b hb⟩
    · rw [List.getElem?_set_ne (Ne.symm hk)] at e; exact E.ob k p e
  · by_cases hk : k = j
    · subst hk; rw [List.getElem?_set_self hj] at e; cases e
    · rw [List.getElem?_set_ne (Ne.symm hk)] at e; exact E.no k e
def Cell.nt (n : Nat) : Cell → Bool
  | .o j => !Nat.beq j n
  | _ => true
/-- the last object takes the place of the m-th, which no slot holds -/
theorem Ev.rebind {q q' : OP} {m i : Nat} (E : Ev Φ F H σ C (O ++ [some q']) A) (hO : O[m]? = some (some q)) (hq : q.mine = true) (hq' : q'.mine = true) (hC : C[i]? = some (.o O.length)) (hc : (C.set i .u).all (Cell.nt m) = true) (hc2 : (C.set i .u).all (Cell.lt O.length) = true) : ∃ A', Ev Φ F H σ (C.set i (.o m)) (O.set m (some q')) A' := by
  have hm : m < O.length := (List.getElem?_eq_some_iff.mp hO).1
  have las := E.pm m q (by rw [List.getElem?_append_left hm]; exact hO) hq
  obtain ⟨a, fp, hA, J⟩ := E.ob O.length q' (by simp)
  have lA : A.length = O.length + 1 := by rw [E.len]; simp
  have hmA : m < A.length := by omega
  -- other slots
  have ck : Cks F ((A.set m (a, fp)).take O.length) σ (C.set i (.o m)) := by
    have gen : ∀ {σ : St} {C : List Cell} {i : Nat}, Cks F A σ C → C[i]? = some (.o O.length) → (C.set i .u).all (Cell.nt m) = true → (C.set i .u).all (Cell.lt O.length) = true → Cks F ((A.set m (a, fp)).take O.length) σ (C.set i (.o m)) := by
      intro σ C i h
      have other : ∀ {x : Option V} {c : Cell}, Ck F A x c → Cell.nt m c = true → Cell.lt O.length c = true → Ck F ((A.set m (a, fp)).take O.length) x c := fun {x c} h h1 h2 => by
        cases c with
        | u => trivial
        | v p => exact h
        | o j =>
          obtain ⟨b, g, e1, e2⟩ := h
          have hj : j < O.length := of_decide_eq_true h2
          have hne : j ≠ m := fun z => by
            subst z
            have h3 : (!Nat.beq j j) = true := h1
            rw [Nat.beq_refl] at h3; cases h3
          exact ⟨b, g, e1, by rw [List.getElem?_take_of_lt hj, List.getElem?_set_ne (Ne.symm hne)]; exact e2⟩
      have rest : ∀ {σ : St} {C : List Cell}, Cks F A σ C → C.all (Cell.nt m) = true → C.all (Cell.lt O.length) = true → Cks F ((A.set m (a, fp)).take O.length) σ C := fun {σ C} h => by
        induction h with
        | nil => intro _ _; exact .nil
        | cons h t ih =>
          intro h1 h2
          rw [List.all_cons, Bool.and_eq_true] at h1 h2
          exact .cons (other h h1.1 h2.1) (ih h1.2 h2.2)
      induction h generalizing i with
      | nil => intro hC; simp at hC
      | @cons x c σ C h t ih =>
        intro hC h1 h2
        cases i with
        | zero =>
          rw [List.getElem?_cons_zero] at hC; cases hC
          rw [List.set_cons_zero, List.all_cons, Bool.and_eq_true] at h1 h2
          rw [List.set_cons_zero]
          refine .cons ?_ (rest t h1.2 h2.2)
          obtain ⟨b, g, e1, e2⟩ := h
          rw [hA] at e2; cases e2
          exact ⟨a, fp, e1, by rw [List.getElem?_take_of_lt hm, List.getElem?_set_self hmA]⟩
        | succ i =>
          rw [List.getElem?_cons_succ] at hC
          rw [List.set_cons_succ, List.all_cons, Bool.and_eq_true] at h1 h2
          rw [List.set_cons_succ]
          exact .cons (other h h1.1 h2.1) (ih hC h1.2 h2.2)
    exact gen E.ck hC hc hc2
  have atA : ∀ {k : Nat} {x : Addr × List Addr}, ((A.set m (a, fp)).take O.length)[k]? = some x → k < O.length ∧ ((k = m ∧ x = (a, fp)) ∨ (k ≠ m ∧ A[k]? = some x)) := fun {k x} h => by
    have hk := (List.getElem?_eq_some_iff.mp h).1
    rw [List.length_take] at hk
    have hk' : k < O.length := by omega
    rw [List.getElem?_take_of_lt hk'] at h
    refine ⟨hk', ?_⟩
    by_cases e : k = m
    · subst e; rw [List.getElem?_set_self hmA] at h; exact .inl ⟨rfl, (Option.some.inj h).symm⟩
    · rw [List.getElem?_set_ne (Ne.symm e)] at h; exact .inr ⟨e, h⟩
  refine ⟨(A.set m (a, fp)).take O.length, ck, by simp; omega, fun k p e => ?_, fun k e => ?_, fun k l c d f g h1 h2 ne b hb hb' => ?_, ?_, E.fh, E.ff, E.kp, E.nw, E.dm, fun k p e hp => ?_⟩
  · have hk : k < O.length := by
      have := (List.getElem?_eq_some_iff.mp e).1
      rwa [List.length_set] at this
    by_cases z : k = m
    · subst z
      rw [List.getElem?_set_self hm] at e; cases e
      exact ⟨a, fp, by rw [List.getElem?_take_of_lt hk, List.getElem?_set_self hmA], J.ok, J.fr, J.al, fun b hb => (J.m b hb).imp (fun w => by rw [hq'] at w; cases w.1) id⟩
    · rw [List.getElem?_set_ne (Ne.symm z)] at e
      obtain ⟨c, g, h, K⟩ := E.ob k p (by rw [List.getElem?_append_left hk]; exact e)
      exact ⟨c, g, by rw [List.getElem?_take_of_lt hk, List.getElem?_set_ne (Ne.symm z)]; exact h, K⟩
  · have hk : k < O.length := by
      have := (List.getElem?_eq_some_iff.mp e).1
      rwa [List.length_set] at this
    have z : k ≠ m := fun z => by subst z; rw [List.getElem?_set_self hm] at e; cases e
    rw [List.getElem?_set_ne (Ne.symm z)] at e
    obtain ⟨c, h⟩ := E.no k (by rw [List.getElem?_append_left hk]; exact e)
    exact ⟨c, by rw [List.getElem?_take_of_lt hk, List.getElem?_set_ne (Ne.symm z)]; exact h⟩
  · obtain ⟨k1, h1⟩ := atA h1
    obtain ⟨k2, h2⟩ := atA h2
    rcases h1 with ⟨rfl, e1⟩ | ⟨z1, e1⟩
    · cases e1
      rcases h2 with ⟨rfl, e2⟩ | ⟨z2, e2⟩
      · exact ne rfl
      · exact E.dj O.length l a d fp g hA e2 (by omega) b hb hb'
    · rcases h2 with ⟨rfl, e2⟩ | ⟨z2, e2⟩
      · cases e2
        exact E.dj k O.length c a f fp e1 hA (by omega) b hb hb'
      · exact E.dj k l c d f g e1 e2 ne b hb hb'
  · have e : (((A.set m (a, fp)).take O.length).map (·.1)).take Φ.as.length = (A.map (·.1)).take Φ.as.length := by
      rw [List.map_take, List.take_take, Nat.min_eq_left (by omega), List.map_set]
      refine List.ext_getElem? fun n => ?_
      rcases Nat.lt_or_ge n Φ.as.length with h | h
      · rw [List.getElem?_take_of_lt h, List.getElem?_take_of_lt h, List.getElem?_set_ne (by omega)]
      · rw [List.getElem?_eq_none (by simp; omega), List.getElem?_eq_none (by simp; omega)]
    rw [e]; exact E.pre
  · by_cases z : k = m
    · rw [z]; exact las
    · rw [List.getElem?_set_ne (Ne.symm z)] at e
      exact E.pm k p (by rw [List.getElem?_append_left (List.getElem?_eq_some_iff.mp e).1]; exact e) hp
end
end SIM

end
section
namespace SIM
open PySem L2
abbrev Ob := List (Option OP)
theorem imp {X : Cx} {e : Expr} {t t' : TE} (h : PE X e t) (k : ∀ σ H Q, t' σ H Q → t σ H Q) : PE X e t' := ⟨fun pins s σ H Q I w => h.run pins s σ H Q I (k σ H Q w)⟩
theorem impT {X : Cx} {e : Expr} {t t' : TT} (h : PT X e t) (k : ∀ σ H Q, t' σ H Q → t σ H Q) : PT X e t' := ⟨fun pins s σ H Q I w => h.run pins s σ H Q I (k σ H Q w)⟩
theorem impW {X : Cx} {e : Expr} {t t' : TT} (h : PW X e t) (k : ∀ σ H Q, t' σ H Q → t σ H Q) : PW X e t' := ⟨fun wh pins s σ H Q I w => h.run wh pins s σ H Q I (k σ H Q w)⟩
theorem impA {X : Cx} {e : List Expr} {t t' : TA} (h : PA X e t) (k : ∀ σ H Q, t' σ H Q → t σ H Q) : PA X e t' := ⟨fun pos pins s σ H Q I w => h.run pos pins s σ H Q I (k σ H Q w)⟩
theorem impS {X : Cx} {e : Stmt} {t t' : TS} (h : PS X e t) (k : ∀ D σ H, t' D σ H → t D σ H) : PS X e t' := ⟨fun pins s σ H D I w => h.run pins s σ H D I (k D σ H w)⟩
theorem impSs {X : Cx} {e : List Stmt} {t t' : TS} (h : PSs X e t) (k : ∀ D σ H, t' D σ H → t D σ H) : PSs X e t' := ⟨fun pins s σ H D I w => h.run pins s σ H D I (k D σ H w)⟩
theorem pe_never {X : Cx} {e : Expr} : PE X e (fun _ _ _ => False) := ⟨fun _ _ _ _ _ _ h => h.elim⟩
theorem pt_never {X : Cx} {e : Expr} : PT X e (fun _ _ _ => False) := ⟨fun _ _ _ _ _ _ h => h.elim⟩
theorem pw_never {X : Cx} {e : Expr} : PW X e (fun _ _ _ => False) := ⟨fun _ _ _ _ _ _ _ h => h.elim⟩
theorem pa_never {X : Cx} {e : List Expr} : PA X e (fun _ _ _ => False) := ⟨fun _ _ _ _ _ _ _ h => h.elim⟩
/-- an expression: from the cells C and objects O it gives a p, leaving the objects O' -/
def rdE (C : List Cell) (O O' : Ob) (p : VP) : TE := fun σ H Q => ∃ Φ F A, Ev Φ F H σ C O A ∧ ∀ F' H' v A', Le F F' → Ev Φ F' H' σ C O' A' → p.p F' v → Q v H'
/-- .. an object of its own, the last one -/
def rdO (C : List Cell) (O O' : Ob) (q : OP) : TE := fun σ H Q => ∃ Φ F A, Ev Φ F H σ C O A ∧ ∀ F' H' v A' a fp, Le F F' → Ev Φ F' H' σ C (O' ++ [some q]) A' → Φ.as.length ≤ O'.length → v = .ref a → A'[O'.length]? = some (a, fp) → Q v H'
def rdT (C : List Cell) (O O' : Ob) (b : Bool) : TT := fun σ H Q => ∃ Φ F A, Ev Φ F H σ C O A ∧ ∀ F' H' A', Le F F' → Ev Φ F' H' σ C O' A' → Q b H'
/-- a list that is there to be read: frozen, or an object -/
def rdL (C : List Cell) (O O' : Ob) (ps : List VP) : TE := fun σ H Q => ∃ Φ F A, Ev Φ F H σ C O A ∧ ∀ F' H' a vs A', Le F F' → Ev Φ F' H' σ C O' A' → H' a = some (.lst vs) → Al F' vs ps → Q (.ref a) H'
abbrev SE (X : Cx) (e : Expr) (C : List Cell) (O O' : Ob) (p : VP) : Prop := PE X e (rdE C O O' p)
abbrev SO (X : Cx) (e : Expr) (C : List Cell) (O O' : Ob) (q : OP) : Prop := PE X e (rdO C O O' q)
abbrev ST (X : Cx) (e : Expr) (C : List Cell) (O O' : Ob) (b : Bool) : Prop := PT X e (rdT C O O' b)
abbrev SW (X : Cx) (e : Expr) (C : List Cell) (O O' : Ob) (b : Bool) : Prop := PW X e (rdT C O O' b)
abbrev SL (X : Cx) (e : Expr) (C : List Cell) (O O' : Ob) (ps : List VP) : Prop := PE X e (rdL C O O' ps)
inductive AC where
  | v (p : VP)
  | o (i : Nat)
inductive Aa (F : Hp) (σ : St) : List V → List AC → Prop
  | nil : Aa F σ [] []
  | v {x : V} {p : VP} {vs : List V} {as : List AC} (h : p.p F x) (t : Aa F σ vs as) : Aa F σ (x :: vs) (.v p :: as)
  | o {x : V} {i : Nat} {vs : List V} {as : List AC} (h : σ[i]? = some (some x)) (t : Aa F σ vs as) : Aa F σ (x :: vs) (.o i :: as)
theorem Aa.mono {F F' : Hp} {σ : St} {vs : List V} {as : List AC} (k : Le F F') (h : Aa F σ vs as) : Aa F' σ vs as := by
  induction h with
  | nil => exact .nil
  | v h _ ih => exact .v (VP.mono _ k h) ih
  | o h _ ih => exact .o h ih
theorem Aa.al {F : Hp} {σ : St} {vs : List V} {ps : List VP} (h : Aa F σ vs (ps.map AC.v)) : Al F vs ps := by
  induction ps generalizing vs with
  | nil => cases h; exact .nil
  | cons p ps ih => cases h with | v h t => exact .cons h (ih t)
def rdA (C : List Cell) (O O' : Ob) (as : List AC) : TA := fun σ H Q => ∃ Φ F A, Ev Φ F H σ C O A ∧ ∀ F' H' vs A', Le F F' → Ev Φ F' H' σ C O' A' → Aa F' σ vs as → Q vs H'
abbrev SA (X : Cx) (es : List Expr) (C : List Cell) (O O' : Ob) (as : List AC) : Prop := PA X es (rdA C O O' as)
section
variable {X : Cx} {C : List Cell} {O O1 O2 O3 : Ob} {p q r : VP} {e e1 e2 e3 : Expr} {es : List Expr} {pos : Pos} {i j : Int} {b b1 b2 : Bool} {x : Str}
/-! names and constants -/
theorem se_var (n : Nat) (hC : C[n]? = some (.v p) := by rfl) (hN : X.N[n]? = some x := by rfl) (hv : Vis X.env.scope x := by first | exact Or.inl rfl | exact Or.inr (Or.inl rfl) | exact Or.inr (Or.inr rfl)) (hd : (x == ("__debug__" : Str)) = false := by decide)
    (hcd : (x == ("__classdict__" : Str)) = false := by decide) : SE X (.Name x pos) C O O p :=
  imp (pe_var hN hv hd hcd) fun σ H Q ⟨Φ, F, A, E, k⟩ => let ⟨v, h1, h2⟩ := E.val hC; ⟨v, h1, k F H v A Le.refl E h2⟩
theorem sl_var (n : Nat) {m : Nat} {ps : List VP} (hC : C[n]? = some (.o m) := by rfl) {t : Bool} (hO : O[m]? = some (some (lstG t ps)) := by rfl) (hN : X.N[n]? = some x := by rfl) (hv : Vis X.env.scope x := by first | exact Or.inl rfl | exact Or.inr (Or.inl rfl) | exact Or.inr (Or.inr rfl)) (hd : (x == ("__debug__" : Str)) = false := by decide)
    (hcd : (x == ("__classdict__" : Str)) = false := by decide) : SL X (.Name x pos) C O O ps :=
  imp (pe_var hN hv hd hcd) fun σ H Q ⟨Φ, F, A, E, k⟩ => let ⟨a, fp, h1, h2, J⟩ := E.obj hC hO; let ⟨_, vs, h3, h4⟩ := J.ok; ⟨.ref a, h1, k F H a vs A Le.refl E h3 h4⟩
theorem sl_frz {ps : List VP} (h : SE X e C O O1 (lstP ps)) : SL X e C O O1 ps :=
  imp h fun σ H Q ⟨Φ, F, A, E, k⟩ => ⟨Φ, F, A, E, fun F' H' v A' l E' ⟨a, vs, hv, h1, h2⟩ => by subst hv; exact k F' H' a vs A' l E' (E'.fh _ _ h1) h2⟩
theorem se_c {t : TE} {v : V} (h : PE X e (tC v)) : SE X e C O O (eqP v) := imp h fun σ H Q ⟨Φ, F, A, E, k⟩ => k F H v A Le.refl E rfl
theorem se_int {n : Int} {k : Nat} : SE X (.Constant (.int n) k pos) C O O (vp n) := imp pe_int fun σ H Q ⟨Φ, F, A, E, k⟩ => k F H _ A Le.refl E rfl
theorem se_bl {n : Bool} {k : Nat} : SE X (.Constant (.bool n) k pos) C O O (vp n) := imp pe_bl fun σ H Q ⟨Φ, F, A, E, k⟩ => k F H _ A Le.refl E rfl
theorem se_str {n : Str} {k : Nat} : SE X (.Constant (.str n) k pos) C O O (vp n) := imp pe_str fun σ H Q ⟨Φ, F, A, E, k⟩ => k F H _ A Le.refl E rfl
theorem se_non {k : Nat} : SE X (.Constant .none k pos) C O O (vp ()) := imp pe_non fun σ H Q ⟨Φ, F, A, E, k⟩ => k F H _ A Le.refl E rfl
theorem se_glob {v : V} {u : Value} (hm : X.mg x = some u) (r : RelV v u) (hg : Gl X x := by rfl) (hd : (x == ("__debug__" : Str)) = false := by decide) : SE X (.Name x pos) C O O (eqP v) := imp (pe_glob hg hm r hd) fun σ H Q ⟨Φ, F, A, E, k⟩ => k F H v A Le.refl E rfl
/-- a value seen as another meaning -/
theorem se_as (h : SE X e C O O1 p) (k : ∀ F v, p.p F v → q.p F v) : SE X e C O O1 q := imp h fun σ H Q ⟨Φ, F, A, E, w⟩ => ⟨Φ, F, A, E, fun F' H' v A' l E' hv => w F' H' v A' l E' (k F' v hv)⟩
theorem se_none {α : Type} [Rp α] (h : SE X e C O O1 (vp ())) : SE X e C O O1 (vp (none : Option α)) := se_as h fun _ _ h => h
/-! two values, one operator -/
theorem se_op {op : Operator} {rr : R2} (ho : OpR X (binaryOp op) rr) (h1 : SE X e1 C O O1 p) (h2 : SE X e2 C O1 O2 q)
    (hr : ∀ Φ F H σ A x y (Q : VK), Ev Φ F H σ C O2 A → p.p F x → q.p F y → (∀ F' H' v A', Le F F' → Ev Φ F' H' σ C O3 A' → r.p F' v → Q v H') → rr x y H Q) : SE X (.BinOp e1 op e2 pos) C O O3 r :=
  imp (pe_op ho h1 h2) fun σ H Q ⟨Φ, F, A, E, k⟩ => ⟨Φ, F, A, E, fun F1 H1 x A1 l1 E1 hx => ⟨Φ, F1, A1, E1, fun F2 H2 y A2 l2 E2 hy =>
    hr Φ F2 H2 σ A2 x y Q E2 (p.mono l2 hx) hy fun F' H' v A' l E' hv => k F' H' v A' (l1.trans (l2.trans l)) E' hv⟩⟩
theorem se_opI {op : Operator} {Cc : Int → Int → Prop} {g : Int → Int → V} (ho : OpR X (binaryOp op) (rI Cc g)) (h1 : SE X e1 C O O1 (vp i)) (h2 : SE X e2 C O1 O2 (vp j)) (hc : Cc i j) : SE X (.BinOp e1 op e2 pos) C O O2 (eqP (g i j)) :=
  se_op ho h1 h2 fun Φ F H σ A x y Q E hx hy k => ⟨i, j, hx, hy, hc, k F H _ A Le.refl E rfl⟩
theorem se_opI0 {op : Operator} {g : Int → Int → V} (ho : OpR X (binaryOp op) (rI0 g)) (h1 : SE X e1 C O O1 (vp i)) (h2 : SE X e2 C O1 O2 (vp j)) : SE X (.BinOp e1 op e2 pos) C O O2 (eqP (g i j)) :=
  se_op ho h1 h2 fun Φ F H σ A x y Q E hx hy k => ⟨i, j, hx, hy, k F H _ A Le.refl E rfl⟩
theorem se_add (h1 : SE X e1 C O O1 (vp i)) (h2 : SE X e2 C O1 O2 (vp j)) : SE X (.BinOp e1 .Add e2 pos) C O O2 (vp (i + j)) := se_opI0 op_add h1 h2
theorem se_sub (h1 : SE X e1 C O O1 (vp i)) (h2 : SE X e2 C O1 O2 (vp j)) : SE X (.BinOp e1 .Sub e2 pos) C O O2 (vp (i - j)) := se_opI0 op_sub h1 h2
theorem se_neg (h1 : SE X e1 C O O1 (vp i)) : SE X (.UnaryOp .USub e1 pos) C O O1 (vp (-i)) :=
  imp (pe_un un_neg h1) fun σ H Q ⟨Φ, F, A, E, k⟩ => ⟨Φ, F, A, E, fun F1 H1 x A1 l1 E1 hx => ⟨i, hx, k F1 H1 _ A1 l1 E1 rfl⟩⟩
/-! comparisons -/
theorem se_cmp {op : CmpOp} {rr : R2} (ho : OpR X (compareOp op) rr) (h1 : SE X e1 C O O1 p) (h2 : SE X e2 C O1 O2 q) (hm : behindInMarks op e2 = false)
    (hr : ∀ Φ F H σ A x y (Q : VK), Ev Φ F H σ C O2 A → p.p F x → q.p F y → (∀ F' H' v A', Le F F' → Ev Φ F' H' σ C O3 A' → r.p F' v → Q v H') → rr x y H Q) : SE X (.Compare e1 [op] [e2] pos) C O O3 r :=
  imp (pe_cmpR ho h1 h2 hm) fun σ H Q ⟨Φ, F, A, E, k⟩ => ⟨Φ, F, A, E, fun F1 H1 x A1 l1 E1 hx => ⟨Φ, F1, A1, E1, fun F2 H2 y A2 l2 E2 hy =>
    hr Φ F2 H2 σ A2 x y Q E2 (p.mono l2 hx) hy fun F' H' v A' l E' hv => k F' H' v A' (l1.trans (l2.trans l)) E' hv⟩⟩
theorem st_cmp {op : CmpOp} {rr : R2} (ho : OpR X (compareOp op) rr) (h1 : SE X e1 C O O1 p) (h2 : SE X e2 C O1 O2 q) (hm : behindInMarks op e2 = false)
    (hr : ∀ Φ F H σ A x y (Q : VK), Ev Φ F H σ C O2 A → p.p F x → q.p F y → (∀ F' H' v A', Le F F' → Ev Φ F' H' σ C O3 A' → (vp b).p F' v → Q v H') → rr x y H Q) : ST X (.Compare e1 [op] [e2] pos) C O O3 b :=
  impT (pt_cmpR ho h1 h2 hm) fun σ H Q ⟨Φ, F, A, E, k⟩ => ⟨Φ, F, A, E, fun F1 H1 x A1 l1 E1 hx => ⟨Φ, F1, A1, E1, fun F2 H2 y A2 l2 E2 hy =>
    hr Φ F2 H2 σ A2 x y _ E2 (p.mono l2 hx) hy fun F' H' v A' l E' hv => ⟨b, hv, k F' H' A' (l1.trans (l2.trans l)) E'⟩⟩⟩
theorem se_cmpI {op : CmpOp} {g : Int → Int → Bool} (ho : OpR X (compareOp op) (rI0 fun i j => .bl (g i j))) (h1 : SE X e1 C O O1 (vp i)) (h2 : SE X e2 C O1 O2 (vp j)) (hm : behindInMarks op e2 = false) : SE X (.Compare e1 [op] [e2] pos) C O O2 (vp (g i j)) :=
  se_cmp ho h1 h2 hm fun Φ F H σ A x y Q E hx hy k => ⟨i, j, hx, hy, k F H _ A Le.refl E rfl⟩
theorem st_cmpI {op : CmpOp} {g : Int → Int → Bool} (ho : OpR X (compareOp op) (rI0 fun i j => .bl (g i j))) (h1 : SE X e1 C O O1 (vp i)) (h2 : SE X e2 C O1 O2 (vp j)) (hm : behindInMarks op e2 = false) : ST X (.Compare e1 [op] [e2] pos) C O O2 (g i j) :=
  st_cmp ho h1 h2 hm fun Φ F H σ A x y Q E hx hy k => ⟨i, j, hx, hy, k F H _ A Le.refl E rfl⟩
theorem se_lt (h1 : SE X e1 C O O1 (vp i)) (h2 : SE X e2 C O1 O2 (vp j)) : SE X (.Compare e1 [.Lt] [e2] pos) C O O2 (vp (decide (i < j))) := se_cmpI op_lt h1 h2 (nomark _)
theorem se_le (h1 : SE X e1 C O O1 (vp i)) (h2 : SE X e2 C O1 O2 (vp j)) : SE X (.Compare e1 [.LtE] [e2] pos) C O O2 (vp (decide (i ≤ j))) := se_cmpI op_le h1 h2 (nomark _)
theorem se_gt (h1 : SE X e1 C O O1 (vp i)) (h2 : SE X e2 C O1 O2 (vp j)) : SE X (.Compare e1 [.Gt] [e2] pos) C O O2 (vp (decide (j < i))) := se_cmpI op_gt h1 h2 (nomark _)
theorem se_ge (h1 : SE X e1 C O O1 (vp i)) (h2 : SE X e2 C O1 O2 (vp j)) : SE X (.Compare e1 [.GtE] [e2] pos) C O O2 (vp (decide (j ≤ i))) := se_cmpI op_ge h1 h2 (nomark _)
theorem st_lt (h1 : SE X e1 C O O1 (vp i)) (h2 : SE X e2 C O1 O2 (vp j)) : ST X (.Compare e1 [.Lt] [e2] pos) C O O2 (decide (i < j)) := st_cmpI op_lt h1 h2 (nomark _)
theorem st_le (h1 : SE X e1 C O O1 (vp i)) (h2 : SE X e2 C O1 O2 (vp j)) : ST X (.Compare e1 [.LtE] [e2] pos) C O O2 (decide (i ≤ j)) := st_cmpI op_le h1 h2 (nomark _)
theorem st_gt (h1 : SE X e1 C O O1 (vp i)) (h2 : SE X e2 C O1 O2 (vp j)) : ST X (.Compare e1 [.Gt] [e2] pos) C O O2 (decide (j < i)) := st_cmpI op_gt h1 h2 (nomark _)
theorem st_ge (h1 : SE X e1 C O O1 (vp i)) (h2 : SE X e2 C O1 O2 (vp j)) : ST X (.Compare e1 [.GtE] [e2] pos) C O O2 (decide (j ≤ i)) := st_cmpI op_ge h1 h2 (nomark _)
/-- ints, texts, bools: == -/
theorem se_eqV {v w : V} (hs : scal v w = true) (h1 : SE X e1 C O O1 (eqP v)) (h2 : SE X e2 C O1 O2 (eqP w)) : SE X (.Compare e1 [.Eq] [e2] pos) C O O2 (vp (decide (v = w))) :=
  se_cmp op_eq h1 h2 (nomark _) fun Φ F H σ A x y Q E hx hy k => by cases hx; cases hy; exact ⟨hs, k F H _ A Le.refl E rfl⟩
theorem st_eqV {v w : V} (hs : scal v w = true) (h1 : SE X e1 C O O1 (eqP v)) (h2 : SE X e2 C O1 O2 (eqP w)) : ST X (.Compare e1 [.Eq] [e2] pos) C O O2 (decide (v = w)) :=
  st_cmp op_eq h1 h2 (nomark _) fun Φ F H σ A x y Q E hx hy k => by cases hx; cases hy; exact ⟨hs, k F H _ A Le.refl E rfl⟩
theorem se_neV {v w : V} (hs : scal v w = true) (h1 : SE X e1 C O O1 (eqP v)) (h2 : SE X e2 C O1 O2 (eqP w)) : SE X (.Compare e1 [.NotEq] [e2] pos) C O O2 (vp (!decide (v = w))) :=
  se_cmp op_ne h1 h2 (nomark _) fun Φ F H σ A x y Q E hx hy k => by cases hx; cases hy; exact ⟨hs, k F H _ A Le.refl E rfl⟩
theorem st_neV {v w : V} (hs : scal v w = true) (h1 : SE X e1 C O O1 (eqP v)) (h2 : SE X e2 C O1 O2 (eqP w)) : ST X (.Compare e1 [.NotEq] [e2] pos) C O O2 (!decide (v = w)) :=
  st_cmp op_ne h1 h2 (nomark _) fun Φ F H σ A x y Q E hx hy k => by cases hx; cases hy; exact ⟨hs, k F H _ A Le.refl E rfl⟩
theorem dI {i j : Int} : decide (V.int i = V.int j) = decide (i = j) := by rw [Bool.eq_iff_iff]; simp
theorem dS {i j : Str} : decide (V.str i = V.str j) = decide (i = j) := by rw [Bool.eq_iff_iff]; simp
theorem dB {i j : Bool} : decide (V.bl i = V.bl j) = decide (i = j) := by rw [Bool.eq_iff_iff]; simp
theorem se_eqI (h1 : SE X e1 C O O1 (vp i)) (h2 : SE X e2 C O1 O2 (vp j)) : SE X (.Compare e1 [.Eq] [e2] pos) C O O2 (vp (decide (i = j))) := dI ▸ se_eqV rfl h1 h2
theorem st_eqI (h1 : SE X e1 C O O1 (vp i)) (h2 : SE X e2 C O1 O2 (vp j)) : ST X (.Compare e1 [.Eq] [e2] pos) C O O2 (decide (i = j)) := dI ▸ st_eqV rfl h1 h2
theorem se_neI (h1 : SE X e1 C O O1 (vp i)) (h2 : SE X e2 C O1 O2 (vp j)) : SE X (.Compare e1 [.NotEq] [e2] pos) C O O2 (vp (!decide (i = j))) := dI ▸ se_neV rfl h1 h2
theorem st_neI (h1 : SE X e1 C O O1 (vp i)) (h2 : SE X e2 C O1 O2 (vp j)) : ST X (.Compare e1 [.NotEq] [e2] pos) C O O2 (!decide (i = j)) := dI ▸ st_neV rfl h1 h2
theorem se_eqS {i j : Str} (h1 : SE X e1 C O O1 (vp i)) (h2 : SE X e2 C O1 O2 (vp j)) : SE X (.Compare e1 [.Eq] [e2] pos) C O O2 (vp (decide (i = j))) := dS ▸ se_eqV rfl h1 h2
theorem st_eqS {i j : Str} (h1 : SE X e1 C O O1 (vp i)) (h2 : SE X e2 C O1 O2 (vp j)) : ST X (.Compare e1 [.Eq] [e2] pos) C O O2 (decide (i = j)) := dS ▸ st_eqV rfl h1 h2
theorem se_neS {i j : Str} (h1 : SE X e1 C O O1 (vp i)) (h2 : SE X e2 C O1 O2 (vp j)) : SE X (.Compare e1 [.NotEq] [e2] pos) C O O2 (vp (!decide (i = j))) := dS ▸ se_neV rfl h1 h2
theorem st_neS {i j : Str} (h1 : SE X e1 C O O1 (vp i)) (h2 : SE X e2 C O1 O2 (vp j)) : ST X (.Compare e1 [.NotEq] [e2] pos) C O O2 (!decide (i = j)) := dS ▸ st_neV rfl h1 h2
theorem se_eqB {i j : Bool} (h1 : SE X e1 C O O1 (vp i)) (h2 : SE X e2 C O1 O2 (vp j)) : SE X (.Compare e1 [.Eq] [e2] pos) C O O2 (vp (decide (i = j))) := dB ▸ se_eqV rfl h1 h2
theorem st_eqB {i j : Bool} (h1 : SE X e1 C O O1 (vp i)) (h2 : SE X e2 C O1 O2 (vp j)) : ST X (.Compare e1 [.Eq] [e2] pos) C O O2 (decide (i = j)) := dB ▸ st_eqV rfl h1 h2
theorem st_neB {i j : Bool} (h1 : SE X e1 C O O1 (vp i)) (h2 : SE X e2 C O1 O2 (vp j)) : ST X (.Compare e1 [.NotEq] [e2] pos) C O O2 (!decide (i = j)) := dB ▸ st_neV rfl h1 h2
/-- is None -/
theorem isN_opt {α : Type} [Rp α] {o : Option α} {F : Hp} {x : V} (h : (vp o).p F x) : decide (x = .non) = o.isNone := by
  cases o with
  | none => cases (show x = V.non from h); rfl
  | some a => exact decide_eq_false h.2
theorem se_isN {α : Type} [Rp α] {o : Option α} {k : Nat} {pos' : Pos} (h1 : SE X e1 C O O1 (vp o)) : SE X (.Compare e1 [.Is] [.Constant .none k pos'] pos) C O O1 (vp o.isNone) :=
  imp (pe_cmpR op_isN h1 pe_non (nomark _)) fun σ H Q ⟨Φ, F, A, E, k⟩ => ⟨Φ, F, A, E, fun F1 H1 x A1 l1 E1 hx => ⟨rfl, by rw [isN_opt hx]; exact k F1 H1 _ A1 l1 E1 rfl⟩⟩
theorem st_isN {α : Type} [Rp α] {o : Option α} {k : Nat} {pos' : Pos} (h1 : SE X e1 C O O1 (vp o)) : ST X (.Compare e1 [.Is] [.Constant .none k pos'] pos) C O O1 o.isNone :=
  impT (pt_cmpR op_isN h1 pe_non (nomark _)) fun σ H Q ⟨Φ, F, A, E, k⟩ => ⟨Φ, F, A, E, fun F1 H1 x A1 l1 E1 hx => ⟨rfl, by rw [isN_opt hx]; exact ⟨_, rfl, k F1 H1 A1 l1 E1⟩⟩⟩
theorem se_notN {α : Type} [Rp α] {o : Option α} {k : Nat} {pos' : Pos} (h1 : SE X e1 C O O1 (vp o)) : SE X (.Compare e1 [.IsNot] [.Constant .none k pos'] pos) C O O1 (vp (!o.isNone)) :=
  imp (pe_cmpR op_notN h1 pe_non (nomark _)) fun σ H Q ⟨Φ, F, A, E, k⟩ => ⟨Φ, F, A, E, fun F1 H1 x A1 l1 E1 hx => ⟨rfl, by rw [isN_opt hx]; exact k F1 H1 _ A1 l1 E1 rfl⟩⟩
theorem st_notN {α : Type} [Rp α] {o : Option α} {k : Nat} {pos' : Pos} (h1 : SE X e1 C O O1 (vp o)) : ST X (.Compare e1 [.IsNot] [.Constant .none k pos'] pos) C O O1 (!o.isNone) :=
  impT (pt_cmpR op_notN h1 pe_non (nomark _)) fun σ H Q ⟨Φ, F, A, E, k⟩ => ⟨Φ, F, A, E, fun F1 H1 x A1 l1 E1 hx => ⟨rfl, by rw [isN_opt hx]; exact ⟨_, rfl, k F1 H1 A1 l1 E1⟩⟩⟩
/-- a value that is known to be there -/
theorem se_some {α : Type} [Rp α] {o : Option α} {a : α} (h : SE X e C O O1 (vp o)) (ho : o = some a) : SE X e C O O1 (vp a) := se_as h fun F v hv => by subst ho; exact hv.1
/-! tests -/
theorem st_val (h : SE X e C O O1 (vp b)) (he : ∀ whole, isTrue e X.env whole = (do let v ← whole; standAt e.pos; holding [v] (truthy v)) := by intro _; rfl) : ST X e C O O1 b :=
  impT (pt_val h he) fun σ H Q ⟨Φ, F, A, E, k⟩ => ⟨Φ, F, A, E, fun F1 H1 x A1 l1 E1 hx => ⟨b, hx, k F1 H1 A1 l1 E1⟩⟩
theorem st_not (h : ST X e C O O1 b) : ST X (.UnaryOp .Not e pos) C O O1 (!b) := impT (pt_not h) fun σ H Q ⟨Φ, F, A, E, k⟩ => ⟨Φ, F, A, E, fun F1 H1 A1 l1 E1 => k F1 H1 A1 l1 E1⟩
theorem sw_and1 (h : ST X e C O O1 b) : SW X (.BoolOp .And [e] pos) C O O1 b := pw_and1 h
theorem sw_or1 (h : ST X e C O O1 b) : SW X (.BoolOp .Or [e] pos) C O O1 b := pw_or1 h
/-- a and rest: the rest is asked only where a is true -/
theorem sw_and (h1 : ST X e1 C O O1 b1) (h2 : b1 = true → SW X (.BoolOp .And (e2 :: es) pos) C O1 O2 b) (h3 : b1 = false → b = false ∧ O2 = O1) : SW X (.BoolOp .And (e1 :: e2 :: es) pos) C O O2 b := by
  cases b1 with
  | true => exact impW (pw_and h1 (h2 rfl)) fun σ H Q ⟨Φ, F, A, E, k⟩ => ⟨Φ, F, A, E, fun F1 H1 A1 l1 E1 => iteT ⟨Φ, F1, A1, E1, fun F2 H2 A2 l2 E2 => k F2 H2 A2 (l1.trans l2) E2⟩⟩
  | false =>
    obtain ⟨rfl, rfl⟩ := h3 rfl
    exact impW (pw_and h1 pw_never) fun σ H Q ⟨Φ, F, A, E, k⟩ => ⟨Φ, F, A, E, fun F1 H1 A1 l1 E1 => iteF (k F1 H1 A1 l1 E1)⟩
theorem sw_or (h1 : ST X e1 C O O1 b1) (h2 : b1 = false → SW X (.BoolOp .Or (e2 :: es) pos) C O1 O2 b) (h3 : b1 = true → b = true ∧ O2 = O1) : SW X (.BoolOp .Or (e1 :: e2 :: es) pos) C O O2 b := by
  cases b1 with
  | false => exact impW (pw_or h1 (h2 rfl)) fun σ H Q ⟨Φ, F, A, E, k⟩ => ⟨Φ, F, A, E, fun F1 H1 A1 l1 E1 => iteF ⟨Φ, F1, A1, E1, fun F2 H2 A2 l2 E2 => k F2 H2 A2 (l1.trans l2) E2⟩⟩
  | true =>
    obtain ⟨rfl, rfl⟩ := h3 rfl
    exact impW (pw_or h1 pw_never) fun σ H Q ⟨Φ, F, A, E, k⟩ => ⟨Φ, F, A, E, fun F1 H1 A1 l1 E1 => iteT (k F1 H1 A1 l1 E1)⟩
theorem st_of {e : Expr} (h : SW X e C O O1 b) : ST X e C O O1 b := h.pt
/-! and, or, not as values of bools -/
theorem se_not (h : SE X e C O O1 (vp b)) : SE X (.UnaryOp .Not e pos) C O O1 (vp (!b)) :=
  imp (pe_not h) fun σ H Q ⟨Φ, F, A, E, k⟩ => ⟨Φ, F, A, E, fun F1 H1 x A1 l1 E1 hx => ⟨b, hx, k F1 H1 _ A1 l1 E1 rfl⟩⟩
theorem se_notT (h : ST X e C O O1 b) (hh : PE X (.UnaryOp .Not e pos) (fun σ H Q => rdT C O O1 b σ H fun c H1 => Q (.bl (!c)) H1)) : SE X (.UnaryOp .Not e pos) C O O1 (vp (!b)) :=
  imp hh fun σ H Q ⟨Φ, F, A, E, k⟩ => ⟨Φ, F, A, E, fun F1 H1 A1 l1 E1 => k F1 H1 _ A1 l1 E1 rfl⟩
end
end SIM

end
section
namespace SIM
open PySem L2
section
variable {X : Cx} {C : List Cell} {O O1 O2 O3 : Ob} {p q r : VP} {e e1 e2 e3 : Expr} {es : List Expr} {pos : Pos} {i j k : Int} {b b1 b2 : Bool} {x : Str}
/-! and, or as values -/
theorem se_one {op} (h : SE X e C O O1 p) : SE X (.BoolOp op [e] pos) C O O1 p := pe_one h
theorem se_and (h1 : SE X e1 C O O1 (vp b1)) (h2 : b1 = true → SE X (.BoolOp .And (e2 :: es) pos) C O1 O2 (vp b)) (h3 : b1 = false → b = false ∧ O2 = O1) : SE X (.BoolOp .And (e1 :: e2 :: es) pos) C O O2 (vp b) := by
  cases b1 with
  | true => exact imp (pe_and h1 (h2 rfl)) fun σ H Q ⟨Φ, F, A, E, w⟩ => ⟨Φ, F, A, E, fun F1 H1 v A1 l1 E1 hv => ⟨true, hv, iteT ⟨Φ, F1, A1, E1, fun F2 H2 v2 A2 l2 E2 h => w F2 H2 v2 A2 (l1.trans l2) E2 h⟩⟩⟩
  | false =>
    obtain ⟨rfl, rfl⟩ := h3 rfl
    exact imp (pe_and h1 pe_never) fun σ H Q ⟨Φ, F, A, E, w⟩ => ⟨Φ, F, A, E, fun F1 H1 v A1 l1 E1 hv => ⟨false, hv, iteF (w F1 H1 _ A1 l1 E1 rfl)⟩⟩
theorem se_or (h1 : SE X e1 C O O1 (vp b1)) (h2 : b1 = false → SE X (.BoolOp .Or (e2 :: es) pos) C O1 O2 (vp b)) (h3 : b1 = true → b = true ∧ O2 = O1) : SE X (.BoolOp .Or (e1 :: e2 :: es) pos) C O O2 (vp b) := by
  cases b1 with
  | false => exact imp (pe_or h1 (h2 rfl)) fun σ H Q ⟨Φ, F, A, E, w⟩ => ⟨Φ, F, A, E, fun F1 H1 v A1 l1 E1 hv => ⟨false, hv, iteF ⟨Φ, F1, A1, E1, fun F2 H2 v2 A2 l2 E2 h => w F2 H2 v2 A2 (l1.trans l2) E2 h⟩⟩⟩
  | true =>
    obtain ⟨rfl, rfl⟩ := h3 rfl
    exact imp (pe_or h1 pe_never) fun σ H Q ⟨Φ, F, A, E, w⟩ => ⟨Φ, F, A, E, fun F1 H1 v A1 l1 E1 hv => ⟨true, hv, iteT (w F1 H1 _ A1 l1 E1 rfl)⟩⟩
/-- a if t else b -/
theorem se_if (h1 : ST X e1 C O O1 b) (h2 : b = true → SE X e2 C O1 O2 p) (h3 : b = false → SE X e3 C O1 O2 p) : SE X (.IfExp e1 e2 e3 pos) C O O2 p := by
  cases b with
  | true => exact imp (pe_ifExp h1 (h2 rfl) pe_never) fun σ H Q ⟨Φ, F, A, E, w⟩ => ⟨Φ, F, A, E, fun F1 H1 A1 l1 E1 => iteT ⟨Φ, F1, A1, E1, fun F2 H2 v2 A2 l2 E2 h => w F2 H2 v2 A2 (l1.trans l2) E2 h⟩⟩
  | false => exact imp (pe_ifExp h1 pe_never (h3 rfl)) fun σ H Q ⟨Φ, F, A, E, w⟩ => ⟨Φ, F, A, E, fun F1 H1 A1 l1 E1 => iteF ⟨Φ, F1, A1, E1, fun F2 H2 v2 A2 l2 E2 h => w F2 H2 v2 A2 (l1.trans l2) E2 h⟩⟩
/-- a < b < c of ints: the last is asked only where the first holds -/
theorem se_chain {op op' : CmpOp} {g g' : Int → Int → Bool} (ho : OpR X (compareOp op) (rI0 fun i j => .bl (g i j))) (ho' : OpR X (compareOp op') (rI0 fun i j => .bl (g' i j))) (h1 : SE X e1 C O O (vp i)) (h2 : SE X e2 C O O (vp j)) (h3 : SE X e3 C O O (vp k))
    (hm : lastMarks [op, op'] [e2, e3] = false := by with_unfolding_all rfl) : SE X (.Compare e1 [op, op'] [e2, e3] pos) C O O (vp (g i j && g' j k)) :=
  imp (pe_chain ho ho' h1 h2 h3 hm) fun σ H Q ⟨Φ, F, A, E, w⟩ => ⟨Φ, F, A, E, fun F1 H1 x A1 l1 E1 hx => ⟨Φ, F1, A1, E1, fun F2 H2 y A2 l2 E2 hy => ⟨i, j, hx, hy, g i j, rfl, by
    cases hg : g i j with
    | false => exact iteF (w F2 H2 _ A2 (l1.trans l2) E2 (by rw [hg]; rfl))
    | true => exact iteT ⟨Φ, F2, A2, E2, fun F3 H3 z A3 l3 E3 hz => ⟨j, k, hy, hz, w F3 H3 _ A3 (l1.trans (l2.trans l3)) E3 (by rw [hg]; rfl)⟩⟩⟩⟩⟩
theorem st_chain {op op' : CmpOp} {g g' : Int → Int → Bool} (ho : OpR X (compareOp op) (rI0 fun i j => .bl (g i j))) (ho' : OpR X (compareOp op') (rI0 fun i j => .bl (g' i j))) (h1 : SE X e1 C O O (vp i)) (h2 : SE X e2 C O O (vp j)) (h3 : SE X e3 C O O (vp k))
    (hm : lastMarks [op, op'] [e2, e3] = false := by with_unfolding_all rfl) : ST X (.Compare e1 [op, op'] [e2, e3] pos) C O O (g i j && g' j k) :=
  impT (pt_chain ho ho' h1 h2 h3 hm) fun σ H Q ⟨Φ, F, A, E, w⟩ => ⟨Φ, F, A, E, fun F1 H1 x A1 l1 E1 hx => ⟨Φ, F1, A1, E1, fun F2 H2 y A2 l2 E2 hy => ⟨i, j, hx, hy, g i j, rfl, by
    cases hg : g i j with
    | false => exact iteF ⟨_, rfl, by have := w F2 H2 A2 (l1.trans l2) E2; rwa [hg] at this⟩
    | true => exact iteT ⟨Φ, F2, A2, E2, fun F3 H3 z A3 l3 E3 hz => ⟨j, k, hy, hz, _, rfl, by have := w F3 H3 A3 (l1.trans (l2.trans l3)) E3; rwa [hg] at this⟩⟩⟩⟩⟩
/-! arguments -/
theorem sa_nil : SA X [] C O O [] := impA pa_nil fun σ H Q ⟨Φ, F, A, E, w⟩ => w F H [] A Le.refl E .nil
theorem sa_v {as : List AC} (h : SE X e C O O1 p) (t : SA X es C O1 O2 as) (hs : starEach (e :: es) X.env = (false, eval e X.env) :: starEach es X.env := by rfl) : SA X (e :: es) C O O2 (.v p :: as) :=
  impA (pa_cons h t hs) fun σ H Q ⟨Φ, F, A, E, w⟩ => ⟨Φ, F, A, E, fun F1 H1 x A1 l1 E1 hx => ⟨Φ, F1, A1, E1, fun F2 H2 vs A2 l2 E2 hv => w F2 H2 _ A2 (l1.trans l2) E2 (.v (p.mono l2 hx) hv)⟩⟩
theorem sa_o {as : List AC} (n : Nat) {m : Nat} (t : SA X es C O O2 as) (hC : C[n]? = some (.o m) := by rfl) (hN : X.N[n]? = some x := by rfl) (hv : Vis X.env.scope x := by first | exact Or.inl rfl | exact Or.inr (Or.inl rfl) | exact Or.inr (Or.inr rfl)) (hd : (x == ("__debug__" : Str)) = false := by decide)
    (hcd : (x == ("__classdict__" : Str)) = false := by decide) (hs : starEach (.Name x pos :: es) X.env = (false, eval (.Name x pos) X.env) :: starEach es X.env := by rfl) : SA X (.Name x pos :: es) C O O2 (.o n :: as) :=
  impA (pa_cons (pe_var hN hv hd hcd) t hs) fun σ H Q ⟨Φ, F, A, E, w⟩ => by
    obtain ⟨x, h, a, fp, rfl, k⟩ := E.ck.get hC
    exact ⟨.ref a, h, Φ, F, A, E, fun F2 H2 vs A2 l2 E2 hv => w F2 H2 _ A2 l2 E2 (.o h hv)⟩
/-! tuples, lists -/
theorem se_tup {ps : List VP} {n : Nat} (h : SA X es C O O1 (ps.map AC.v)) (hz : ps.length ≤ 1000 := by exact Nat.le_of_ble_eq_true rfl) : SE X (.Tuple es n pos) C O O1 (tupP ps) :=
  imp (pe_tup h) fun σ H Q ⟨Φ, F, A, E, w⟩ => ⟨Φ, F, A, E, fun F1 H1 vs A1 l1 E1 hv => ⟨by have := hv.al.len; exact Nat.le_trans (by omega : vs.length ≤ 1000) (by decide), fun a ha => by
    have hF := E1.fh.free ha
    exact w _ _ _ A1 (l1.trans (Le.ext hF)) (E1.new ha) ⟨a, vs, rfl, upd_same, hv.al.mono (Le.ext hF)⟩⟩⟩
theorem se_lst {ps : List VP} (h : SA X es C O O1 (ps.map AC.v)) (hz : ps.length ≤ 1000 := by exact Nat.le_of_ble_eq_true rfl) : SE X (.List es pos) C O O1 (lstP ps) :=
  imp (pe_lst h) fun σ H Q ⟨Φ, F, A, E, w⟩ => ⟨Φ, F, A, E, fun F1 H1 vs A1 l1 E1 hv => ⟨by have := hv.al.len; exact Nat.le_trans (by omega : vs.length ≤ 1000) (by decide), fun a ha => by
    have hF := E1.fh.free ha
    exact w _ _ _ A1 (l1.trans (Le.ext hF)) (E1.new ha) ⟨a, vs, rfl, upd_same, hv.al.mono (Le.ext hF)⟩⟩⟩
/-- a new list of one's own -/
theorem Ev.newList {Φ : Frm} {F H : Hp} {σ : L2.St} {A : List (Addr × List Addr)} {a : Addr} {vs : List V} {ps : List VP} (E : Ev Φ F H σ C O A) (ha : H a = none) (hv : Al F vs ps) : Ev Φ F (upd H a (.lst vs)) σ C (O ++ [some (lstO ps)]) (A ++ [(a, [a])]) :=
  E.own (E.beside ha) ⟨rfl, vs, upd_same, hv⟩ fun b hb => by
    rw [List.mem_singleton.mp hb]
    exact ⟨ha, by rw [upd_same]; exact Option.some_ne_none _⟩
theorem lastA {α : Type} {A : List α} {O : Ob} {x : α} (h : A.length = O.length) : (A ++ [x])[O.length]? = some x := by rw [← h]; simp
theorem so_lst {ps : List VP} (h : SA X es C O O1 (ps.map AC.v)) (hz : ps.length ≤ 1000 := by exact Nat.le_of_ble_eq_true rfl) : SO X (.List es pos) C O O1 (lstO ps) :=
  imp (pe_lst h) fun σ H Q ⟨Φ, F, A, E, w⟩ => ⟨Φ, F, A, E, fun F1 H1 vs A1 l1 E1 hv => ⟨by have := hv.al.len; exact Nat.le_trans (by omega : vs.length ≤ 1000) (by decide), fun a ha =>
    w _ _ _ _ a [a] l1 (E1.newList ha hv.al) E1.asl rfl (lastA E1.len)⟩⟩
/-! items -/
def ixP (ps : List VP) (i : Int) : Option VP := atI ps i
theorem Al.atI {F : Hp} {vs : List V} {ps : List VP} (h : Al F vs ps) (e : atI ps i = some p) : ∃ v, L2.atI vs i = some v ∧ p.p F v := by
  unfold L2.atI at e ⊢
  rw [h.len]
  cases hi : ixN ps.length i with
  | none => rw [hi] at e; cases e
  | some n => rw [hi] at e; exact h.get e
theorem se_ixT {ps : List VP} (h1 : SE X e1 C O O1 (tupP ps)) (h2 : SE X e2 C O1 O2 (vp i)) (hi : atI ps i = some p) (hx : PlainIx e2 := by exact fun _ _ => rfl) : SE X (.Subscript e1 e2 pos) C O O2 p :=
  imp (pe_ix ix_tup h1 h2 hx) fun σ H Q ⟨Φ, F, A, E, w⟩ => ⟨Φ, F, A, E, fun F1 H1 x A1 l1 E1 ⟨a, vs, ha, hF, al⟩ => ⟨Φ, F1, A1, E1, fun F2 H2 y A2 l2 E2 hy => by
    obtain ⟨v, hv, hp⟩ := (al.mono l2).atI hi
    exact ⟨a, vs, i, v, ha, hy, SqT.of (E2.fh _ _ (l2 _ _ hF)), hv, w F2 H2 v A2 (l1.trans l2) E2 hp⟩⟩⟩
theorem se_ixL {ps : List VP} (h1 : SE X e1 C O O1 (lstP ps)) (h2 : SE X e2 C O1 O2 (vp i)) (hi : atI ps i = some p) (hx : PlainIx e2 := by exact fun _ _ => rfl) : SE X (.Subscript e1 e2 pos) C O O2 p :=
  imp (pe_ix ix_list h1 h2 hx) fun σ H Q ⟨Φ, F, A, E, w⟩ => ⟨Φ, F, A, E, fun F1 H1 x A1 l1 E1 ⟨a, vs, ha, hF, al⟩ => ⟨Φ, F1, A1, E1, fun F2 H2 y A2 l2 E2 hy => by
    obtain ⟨v, hv, hp⟩ := (al.mono l2).atI hi
    exact ⟨a, vs, i, v, ha, hy, SqL.of (E2.fh _ _ (l2 _ _ hF)), hv, w F2 H2 v A2 (l1.trans l2) E2 hp⟩⟩⟩
/-- an item of a list that is an object of ours -/
theorem se_ixO {ps : List VP} (n : Nat) {m : Nat} {pn : Pos} {t : Bool} (h2 : SE X e2 C O O2 (vp i)) (hO : O2[m]? = some (some (lstG t ps))) (hi : atI ps i = some p) (hC : C[n]? = some (.o m) := by rfl) (hN : X.N[n]? = some x := by rfl) (hv : Vis X.env.scope x := by first | exact Or.inl rfl | exact Or.inr (Or.inl rfl) | exact Or.inr (Or.inr rfl))
    (hd : (x == ("__debug__" : Str)) = false := by decide) (hcd : (x == ("__classdict__" : Str)) = false := by decide) (hx : PlainIx e2 := by exact fun _ _ => rfl) : SE X (.Subscript (.Name x pn) e2 pos) C O O2 p :=
  imp (pe_ix ix_list (pe_var hN hv hd hcd) h2 hx) fun σ H Q ⟨Φ, F, A, E, w⟩ => by
    obtain ⟨x, h, a, fp, rfl, k⟩ := E.ck.get hC
    refine ⟨.ref a, h, Φ, F, A, E, fun F2 H2 y A2 l2 E2 hy => ?_⟩
    obtain ⟨a', fp', hs, hA, J⟩ := E2.obj hC hO
    rw [h] at hs; cases hs
    obtain ⟨_, vs, hvs, al⟩ := J.ok
    obtain ⟨v, hv, hp⟩ := al.atI hi
    exact ⟨a, vs, i, v, rfl, hy, SqL.of hvs, hv, w F2 H2 v A2 l2 E2 hp⟩
/-! built-ins -/
theorem se_lenT {ps : List VP} {p1 : Pos} (hm : X.mg "len" = none) (h : SE X e C O O1 (tupP ps)) (hg : Gl X "len" := by rfl) (ns : starEach [e] X.env = (false, eval e X.env) :: starEach [] X.env := by rfl) : SE X (.Call (.Name "len" p1) [e] [] pos) C O O1 (vp (ps.length : Int)) :=
  imp (pe_callB call_len_seq hg hm PySem.boot_len (sa_v h sa_nil ns) (he := ns)) fun σ H Q ⟨Φ, F, A, E, w⟩ => ⟨Φ, F, A, E, fun F1 H1 xs A1 l1 E1 hx => by
    cases hx with | v h t => cases t; obtain ⟨a, vs, ha, hF, al⟩ := h; exact ⟨a, vs, by rw [ha], .inr (SqT.of (E1.fh _ _ hF)), by rw [al.len]; exact w F1 H1 _ A1 l1 E1 rfl⟩⟩
theorem se_lenL {ps : List VP} {p1 : Pos} (hm : X.mg "len" = none) (h : SL X e C O O1 ps) (hg : Gl X "len" := by rfl) (ns : starEach [e] X.env = (false, eval e X.env) :: starEach [] X.env := by rfl) : SE X (.Call (.Name "len" p1) [e] [] pos) C O O1 (vp (ps.length : Int)) :=
  imp (pe_callB call_len_seq hg hm PySem.boot_len (pa_cons h pa_nil ns) (he := ns)) fun σ H Q ⟨Φ, F, A, E, w⟩ => ⟨Φ, F, A, E, fun F1 H1 a vs A1 l1 E1 hv al => ⟨a, vs, rfl, .inl (SqL.of hv), by rw [al.len]; exact w F1 H1 _ A1 l1 E1 rfl⟩⟩
theorem se_int1 {p1 : Pos} (hm : X.mg "int" = none) (h : SE X e C O O1 (vp i)) (hg : Gl X "int" := by rfl) (ns : starEach [e] X.env = (false, eval e X.env) :: starEach [] X.env := by rfl) : SE X (.Call (.Name "int" p1) [e] [] pos) C O O1 (vp i) :=
  imp (pe_callTy call_int1 hg hm (by decide +kernel) (pa_cons h pa_nil ns) (he := ns)) fun σ H Q ⟨Φ, F, A, E, w⟩ => ⟨Φ, F, A, E, fun F1 H1 v A1 l1 E1 hv => .inl ⟨i, by rw [show v = V.int i from hv], w F1 H1 _ A1 l1 E1 rfl⟩⟩
theorem se_intB {p1 : Pos} (hm : X.mg "int" = none) (h : SE X e C O O1 (vp b)) (hg : Gl X "int" := by rfl) (ns : starEach [e] X.env = (false, eval e X.env) :: starEach [] X.env := by rfl) : SE X (.Call (.Name "int" p1) [e] [] pos) C O O1 (vp (if b then (1 : Int) else 0)) :=
  imp (pe_callTy call_int1 hg hm (by decide +kernel) (pa_cons h pa_nil ns) (he := ns)) fun σ H Q ⟨Φ, F, A, E, w⟩ => ⟨Φ, F, A, E, fun F1 H1 v A1 l1 E1 hv => .inr ⟨b, by rw [show v = V.bl b from hv], w F1 H1 _ A1 l1 E1 rfl⟩⟩
theorem se_tupleL {ps : List VP} {p1 : Pos} (hm : X.mg "tuple" = none) (h : SL X e C O O1 ps) (hg : Gl X "tuple" := by rfl) (ns : starEach [e] X.env = (false, eval e X.env) :: starEach [] X.env := by rfl) : SE X (.Call (.Name "tuple" p1) [e] [] pos) C O O1 (tupP ps) :=
  imp (pe_callTy call_tuple_of hg hm (by decide +kernel) (pa_cons h pa_nil ns) (he := ns)) fun σ H Q ⟨Φ, F, A, E, w⟩ => ⟨Φ, F, A, E, fun F1 H1 a vs A1 l1 E1 hv al => ⟨a, vs, rfl, .inl ⟨SqL.of hv, fun l hl => by
    have hF := E1.fh.free hl
    exact w _ _ _ A1 (l1.trans (Le.ext hF)) (E1.new hl) ⟨l, vs, rfl, upd_same, al.mono (Le.ext hF)⟩⟩⟩⟩
theorem se_tupleT {ps : List VP} {p1 : Pos} (hm : X.mg "tuple" = none) (h : SE X e C O O1 (tupP ps)) (hg : Gl X "tuple" := by rfl) (ns : starEach [e] X.env = (false, eval e X.env) :: starEach [] X.env := by rfl) : SE X (.Call (.Name "tuple" p1) [e] [] pos) C O O1 (tupP ps) :=
  imp (pe_callTy call_tuple_of hg hm (by decide +kernel) (pa_cons h pa_nil ns) (he := ns)) fun σ H Q ⟨Φ, F, A, E, w⟩ => ⟨Φ, F, A, E, fun F1 H1 v A1 l1 E1 hv => by
    obtain ⟨a, vs, rfl, hF, al⟩ := hv
    exact ⟨a, vs, rfl, .inr ⟨SqT.of (E1.fh _ _ hF), w F1 H1 _ A1 l1 E1 ⟨a, vs, rfl, hF, al⟩⟩⟩⟩
theorem so_listL {ps : List VP} {p1 : Pos} (hm : X.mg "list" = none) (h : SL X e C O O1 ps) (hg : Gl X "list" := by rfl) (ns : starEach [e] X.env = (false, eval e X.env) :: starEach [] X.env := by rfl) : SO X (.Call (.Name "list" p1) [e] [] pos) C O O1 (lstO ps) :=
  imp (pe_callTy call_list_of hg hm (by decide +kernel) (pa_cons h pa_nil ns) (he := ns)) fun σ H Q ⟨Φ, F, A, E, w⟩ => ⟨Φ, F, A, E, fun F1 H1 a vs A1 l1 E1 hv al => ⟨a, vs, rfl, .inl (SqL.of hv), fun l hl =>
    w _ _ _ _ l [l] l1 (E1.newList hl al) E1.asl rfl (lastA E1.len)⟩⟩
theorem so_listT {ps : List VP} {p1 : Pos} (hm : X.mg "list" = none) (h : SE X e C O O1 (tupP ps)) (hg : Gl X "list" := by rfl) (ns : starEach [e] X.env = (false, eval e X.env) :: starEach [] X.env := by rfl) : SO X (.Call (.Name "list" p1) [e] [] pos) C O O1 (lstO ps) :=
  imp (pe_callTy call_list_of hg hm (by decide +kernel) (pa_cons h pa_nil ns) (he := ns)) fun σ H Q ⟨Φ, F, A, E, w⟩ => ⟨Φ, F, A, E, fun F1 H1 v A1 l1 E1 hv => by
    obtain ⟨a, vs, rfl, hF, al⟩ := hv
    exact ⟨a, vs, rfl, .inr (SqT.of (E1.fh _ _ hF)), fun l hl => w _ _ _ _ l [l] l1 (E1.newList hl al) E1.asl rfl (lastA E1.len)⟩⟩
/-- a list of one's own, at once never changed again -/
theorem Ev.freezeLast {Φ : Frm} {F H : Hp} {σ : L2.St} {A : List (Addr × List Addr)} {a : Addr} {fp : List Addr} {ps : List VP} (E : Ev Φ F H σ C (O ++ [some (lstO ps)]) A) (hl : Φ.as.length ≤ O.length) (hA : A[O.length]? = some (a, fp)) (hc : C.all (Cell.lt O.length) = true) :
    ∃ F' A', Le F F' ∧ Ev Φ F' H σ C O A' ∧ (lstP ps).p F' (.ref a) := by
  have hO : (O ++ [some (lstO ps)])[O.length]? = some (some (lstO ps)) := by simp
  have E2 : Ev Φ F H (some (.ref a) :: σ) (.o O.length :: C) (O ++ [some (lstO ps)]) A := ⟨.cons ⟨a, fp, rfl, hA⟩ E.ck, E.len, E.ob, E.no, E.dj, E.pre, E.fh, E.ff, E.kp, E.nw, E.dm, E.pm⟩
  obtain ⟨F2, A2, l2, E3⟩ := E2.freeze (i := 0) hO rfl
  have E4 : Ev Φ F2 H σ C ((O ++ [some (lstO ps)]).set O.length none) A2 := ⟨(by cases E3.ck with | cons _ t => exact t), E3.len, E3.ob, E3.no, E3.dj, E3.pre, E3.fh, E3.ff, E3.kp, E3.nw, E3.dm, E3.pm⟩
  have E5 := E4.trunc (n := O.length) hc hl
  have e : ((O ++ [some (lstO ps)]).set O.length none).take O.length = O := by simp
  rw [e] at E5
  obtain ⟨v, h1, h2⟩ := E3.val (i := 0) rfl
  cases h1
  exact ⟨F2, _, l2, E5, h2⟩
theorem se_frz {ps : List VP} (h : SO X e C O O1 (lstO ps)) (hc : C.all (Cell.lt O1.length) = true := by rfl) : SE X e C O O1 (lstP ps) :=
  imp h fun σ H Q ⟨Φ, F, A, E, w⟩ => ⟨Φ, F, A, E, fun F1 H1 v A1 a fp l1 E1 hl hv hA => by
    obtain ⟨F2, A2, l2, E2, h2⟩ := E1.freezeLast hl hA hc
    rw [hv]
    exact w F2 H1 _ A2 (l1.trans l2) E2 h2⟩
end
end SIM

end
section
namespace SIM
open PySem L2
/-! what a walk hands out -/
def Yld (F : Hp) (J : It) (ps : List VP) : Prop := ∀ i F' H', Le F F' → Le F' H' → (i = ps.length → J.stop i H') ∧ ∀ p, ps[i]? = some p → J.go i H' ∧
  ∀ x H3, J.yld i H' x H3 → (H3 = H' ∧ p.p F' x) ∨ ∃ T o, H' T = none ∧ H3 = upd H' T o ∧ ∀ F3, Le F' F3 → F3 T = some o → p.p F3 x
def rdI (C : List Cell) (O O' : Ob) (ps : List VP) : TI := fun σ H R => ∃ Φ F A, Ev Φ F H σ C O A ∧ ∀ J F' H' A', Le F F' → Ev Φ F' H' σ C O' A' → Yld F' J ps → R J H'
abbrev SI (X : Cx) (tg e : Expr) (C : List Cell) (O O' : Ob) (ps : List VP) : Prop := PI X tg e (rdI C O O' ps)
theorem impI {X : Cx} {tg e : Expr} {t t' : TI} (h : PI X tg e t) (k : ∀ σ H R, t' σ H R → t σ H R) : PI X tg e t' := ⟨fun pins s σ H R I w => h.run pins s σ H R I (k σ H R w)⟩
theorem sqL_eq {K : PySem.W.Frag} {H : Hp} {a : Addr} {vs : List V} (h : H a = some (.lst vs)) : SqL K H a vs := SqL.of h
/-! targets -/
def But (ns : List Nat) (σ σ' : L2.St) : Prop := σ'.length = σ.length ∧ ∀ k, k ∉ ns → σ'[k]? = σ[k]?
theorem But.refl {ns : List Nat} {σ : L2.St} : But ns σ σ := ⟨rfl, fun _ _ => rfl⟩
theorem But.trans {ns ms : List Nat} {σ σ1 σ2 : L2.St} (a : But ns σ σ1) (b : But ms σ1 σ2) : But (ns ++ ms) σ σ2 :=
  ⟨b.1.trans a.1, fun k hk => (b.2 k fun h => hk (List.mem_append_right _ h)).trans (a.2 k fun h => hk (List.mem_append_left _ h))⟩
def rdG (C : List Cell) (p : VP) (C' : List Cell) (ns : List Nat) : TG := fun v σ H Q => ∃ Φ F O A, Ev Φ F H σ C O A ∧ p.p F v ∧ ∀ σ', But ns σ σ' → Ev Φ F H σ' C' O A → Q σ' H
def rdGs (C : List Cell) (ps : List VP) (C' : List Cell) (ns : List Nat) : TGs := fun vs σ H Q => ∃ Φ F O A, Ev Φ F H σ C O A ∧ Al F vs ps ∧ ∀ σ', But ns σ σ' → Ev Φ F H σ' C' O A → Q σ' H
abbrev SG (X : Cx) (tg : Expr) (C : List Cell) (p : VP) (C' : List Cell) (ns : List Nat) : Prop := PG X tg (rdG C p C' ns)
abbrev SGs (X : Cx) (tg : List Expr) (C : List Cell) (ps : List VP) (C' : List Cell) (ns : List Nat) : Prop := PGs X tg (rdGs C ps C' ns)
theorem impG {X : Cx} {e : Expr} {t t' : TG} (h : PG X e t) (k : ∀ v σ H Q, t' v σ H Q → t v σ H Q) : PG X e t' := ⟨fun pins s σ H v u Q I r w => h.run pins s σ H v u Q I r (k v σ H Q w)⟩
theorem impGs {X : Cx} {e : List Expr} {t t' : TGs} (h : PGs X e t) (k : ∀ v σ H Q, t' v σ H Q → t v σ H Q) : PGs X e t' := ⟨fun pins s σ H v u Q I r w => h.run pins s σ H v u Q I r (k v σ H Q w)⟩
section
variable {X : Cx} {C C' C1 C2 : List Cell} {O O' O1 O2 O3 : Ob} {p q r : VP} {ps qs : List VP} {tg e e1 e2 e3 : Expr} {es ts : List Expr} {pos : Pos} {i j k : Int} {b b1 b2 : Bool} {x : Str}
theorem sg_name (n : Nat) (nd : X.N.Nodup) (hi : X.N[n]? = some x := by rfl) (hx : Loc X.env.scope x := by first | exact Or.inl rfl | exact Or.inr rfl) (hf : X.fn x = true ∨ X.env.scope.names.lookup x = some .local := by first | exact .inl rfl | exact .inr rfl | assumption) :
    SG X (.Name x pos) C p (C.set n (.v p)) [n] := impG (pg_name nd hi hx hf) fun v σ H Q ⟨Φ, F, O, A, E, hp, k⟩ => k _ ⟨List.length_set, fun k hk => List.getElem?_set_ne fun z => hk (by simp [z])⟩ (E.slot (x := some v) (c := .v p) ⟨v, rfl, hp⟩ n)
theorem sgs_nil : SGs X [] C [] C [] := impGs pgs_nil fun v σ H Q ⟨Φ, F, O, A, E, al, k⟩ => by cases al; exact ⟨rfl, k σ But.refl E⟩
theorem sgs_cons {n1 n2 : List Nat} (h1 : SG X e C p C1 n1) (h2 : SGs X es C1 ps C2 n2) (hs : (assignEach (e :: es) X.env).map (·.2) = assign e X.env :: (assignEach es X.env).map (·.2) := by rfl) : SGs X (e :: es) C (p :: ps) C2 (n1 ++ n2) :=
  impGs (pgs_cons h1 h2 hs) fun v σ H Q ⟨Φ, F, O, A, E, al, k⟩ => by
    cases al with | cons h t => exact ⟨_, _, rfl, Φ, F, O, A, E, h, fun σ' b E' => ⟨Φ, F, O, A, E', t, fun σ2 b2 E2 => k σ2 (b.trans b2) E2⟩⟩
theorem sg_tup {n : Nat} {ns : List Nat} (hc : X.calm = true) (h : SGs X es C ps C' ns) (hn : (assignEach es X.env).length = ps.length := by rfl) (hst : (assignEach es X.env).findIdx? (·.1) = none := by rfl) : SG X (.Tuple es n pos) C (tupP ps) C' ns :=
  impG (pg_tup hc h hn hst) fun v σ H Q ⟨Φ, F, O, A, E, ⟨a, vs, e, h1, al⟩, k⟩ => ⟨a, vs, e, SqT.of (E.fh _ _ h1), al.len, Φ, F, O, A, E, al, k⟩
/-! statements -/
/-- an exception that leaves: its class, what its own dict holds -/
structure Er where
  cls : Addr
  pl : Hp → Hp → Option Addr → Prop
inductive Out where
  | nx (C : List Cell) (O : Ob)
  | rt (p : VP) (O : Ob)
  | ro (q : OP) (O : Ob)
  | ex (e : Er) (C : List Cell) (O : Ob)
def Out.post (W : WX) (Φ : Frm) (F : Hp) (D : Ends) : Out → Prop
  | .nx C O => ∀ F' H' σ' A', Le F F' → Ev Φ F' H' σ' C O A' → D.nx σ' H'
  | .rt p O => ∀ F' H' v A' O2, Le F F' → Ev Φ F' H' [] [] (O ++ O2) A' → p.p F' v → D.rt v H'
  | .ro q O => ∀ F' H' v A' a fp O2, Le F F' → Ev Φ F' H' [] [] (O ++ O2 ++ [some q]) A' → Φ.as.length ≤ (O ++ O2).length → v = .ref a → A'[(O ++ O2).length]? = some (a, fp) → D.rt v H'
  | .ex e C O => ∀ F' H' σ' A' d O2, Le F F' → Ev Φ F' H' σ' C (O ++ O2) A' → e.pl F' H' d → W (.ref e.cls) d σ' H'
def rdS (W : WX) (C : List Cell) (O : Ob) (o : Out) : TS := fun D σ H => ∃ Φ F A, Ev Φ F H σ C O A ∧ o.post W Φ F D
abbrev SS (X : Cx) (W : WX) (s : Stmt) (C : List Cell) (O : Ob) (o : Out) : Prop := PS X s (rdS W C O o)
abbrev SB (X : Cx) (W : WX) (s : List Stmt) (C : List Cell) (O : Ob) (o : Out) : Prop := PSs X s (rdS W C O o)
theorem Ev.bare {Φ : Frm} {F H : Hp} {σ : L2.St} {A : List (Addr × List Addr)} (E : Ev Φ F H σ C O A) : Ev Φ F H [] [] O A := ⟨.nil, E.len, E.ob, E.no, E.dj, E.pre, E.fh, E.ff, E.kp, E.nw, E.dm, E.pm⟩
theorem Out.post.mono {W : WX} {Φ : Frm} {F F' : Hp} {D : Ends} {o : Out} (l : Le F F') (h : o.post W Φ F D) : o.post W Φ F' D := by
  cases o with
  | nx C O => exact fun F2 H' σ' A' l' E => h F2 H' σ' A' (l.trans l') E
  | rt p O => exact fun F2 H' v A' O2 l' E => h F2 H' v A' O2 (l.trans l') E
  | ro q O => exact fun F2 H' v A' a fp O2 l' E => h F2 H' v A' a fp O2 (l.trans l') E
  | ex e C O => exact fun F2 H' σ' A' d O2 l' E => h F2 H' σ' A' d O2 (l.trans l') E
variable {W : WX} {s : Stmt} {ss : List Stmt} {o : Out}
/-- another end where the statement goes on -/
theorem post_nx {Φ : Frm} {F : Hp} {D : Ends} {nx : L2.St → Hp → Prop} (h : o.post W Φ F D) (hn : ∀ C O, o ≠ .nx C O) : o.post W Φ F { D with nx := nx } := by
  cases o with
  | nx C O => exact absurd rfl (hn C O)
  | rt p O => exact h
  | ro q O => exact h
  | ex e C O => exact h
theorem sb_nil : SB X W [] C O (.nx C O) := impSs pss_nil fun D σ H ⟨Φ, F, A, E, k⟩ => k F H σ A Le.refl E
theorem sb_cons (h1 : SS X W s C O (.nx C1 O1)) (h2 : SB X W ss C1 O1 o) : SB X W (s :: ss) C O o :=
  impSs (pss_cons h1 h2) fun D σ H ⟨Φ, F, A, E, k⟩ => ⟨Φ, F, A, E, fun F' H' σ' A' l E' => ⟨Φ, F', A', E', k.mono l⟩⟩
theorem sb_one (h1 : SS X W s C O o) : SB X W [s] C O o := pss_one h1
/-- a statement that does not go on -/
theorem sb_end (h1 : SS X W s C O o) (hn : ∀ C O, o ≠ .nx C O) : SB X W (s :: ss) C O o := impSs (pss_cons h1 pss_never) fun D σ H ⟨Φ, F, A, E, k⟩ => ⟨Φ, F, A, E, post_nx k hn⟩
theorem sb_endr (h1 : SS X W s C O (.rt p O1)) : SB X W (s :: ss) C O (.rt p O1) := sb_end h1 fun _ _ z => nomatch z
theorem sb_ende {er : Er} (h1 : SS X W s C O (.ex er C1 O1)) : SB X W (s :: ss) C O (.ex er C1 O1) := sb_end h1 fun _ _ z => nomatch z
/-- back to the objects that there were -/
theorem sb_wk0 (h : SB X W ss C O (.nx C1 O1)) (w : Wk C1 C2) (hl : O2.length = O.length := by rfl) (hc : C2.all (Cell.lt O2.length) = true := by rfl) (hO : O1.take O2.length = O2 := by rfl) : SB X W ss C O (.nx C2 O2) :=
  impSs h fun D σ H ⟨Φ, F, A, E, k⟩ => ⟨Φ, F, A, E, fun F' H' σ' A' l E' => by
    have h := (E'.weak w).trunc (n := O2.length) hc (hl ▸ E.asl)
    rw [hO] at h
    exact k F' H' σ' _ l h⟩
theorem ss_wk0 (h : SS X W s C O (.nx C1 O1)) (w : Wk C1 C2) (hl : O2.length = O.length := by rfl) (hc : C2.all (Cell.lt O2.length) = true := by rfl) (hO : O1.take O2.length = O2 := by rfl) : SS X W s C O (.nx C2 O2) :=
  impS h fun D σ H ⟨Φ, F, A, E, k⟩ => ⟨Φ, F, A, E, fun F' H' σ' A' l E' => by
    have h := (E'.weak w).trunc (n := O2.length) hc (hl ▸ E.asl)
    rw [hO] at h
    exact k F' H' σ' _ l h⟩
theorem ss_pass : SS X W (.Pass pos) C O (.nx C O) := impS ps_pass fun D σ H ⟨Φ, F, A, E, k⟩ => k F H σ A Le.refl E
theorem ss_asg {ns : List Nat} (h : SE X e C O O1 p) (g : SG X tg C p C1 ns) (hs : swapsWithSole [tg] e pos.line X.env = pure false := by rfl) (hw : swappedStores [tg] e X.env = pure none := by rfl)
    (h1 : (assignEach [tg] X.env).map (·.2) = [assign tg X.env] := by rfl) : SS X W (.Assign [tg] e pos) C O (.nx C1 O1) :=
  impS (ps_asg h g hs hw h1) fun D σ H ⟨Φ, F, A, E, k⟩ => ⟨Φ, F, A, E, fun F' H' v A' l E' hv => ⟨Φ, F', O1, A', E', hv, fun σ' _ E2 => k F' H' σ' A' l E2⟩⟩
theorem ss_set {pos' : Pos} (n : Nat) (nd : X.N.Nodup) (h : SE X e C O O1 p) (hi : X.N[n]? = some x := by rfl) (hx : Loc X.env.scope x := by first | exact Or.inl rfl | exact Or.inr rfl) (hs : swapsWith e (some (.Name x pos')) pos.line X.env = pure false := by rfl)
    (hf : X.fn x = true ∨ X.env.scope.names.lookup x = some .local := by first | exact .inl rfl | exact .inr rfl | assumption) : SS X W (.Assign [.Name x pos'] e pos) C O (.nx (C.set n (.v p)) O1) :=
  impS (ps_set nd hi hx h hs hf) fun D σ H ⟨Φ, F, A, E, k⟩ => ⟨Φ, F, A, E, fun F' H' v A' l E' hv => k F' H' _ A' l (E'.slot (x := some v) (c := .v p) ⟨v, rfl, hv⟩ n)⟩
theorem ss_setO {q : OP} {pos' : Pos} (n : Nat) (nd : X.N.Nodup) (h : SO X e C O O1 q) (hi : X.N[n]? = some x := by rfl) (hx : Loc X.env.scope x := by first | exact Or.inl rfl | exact Or.inr rfl) (hs : swapsWith e (some (.Name x pos')) pos.line X.env = pure false := by rfl)
    (hf : X.fn x = true ∨ X.env.scope.names.lookup x = some .local := by first | exact .inl rfl | exact .inr rfl | assumption) : SS X W (.Assign [.Name x pos'] e pos) C O (.nx (C.set n (.o O1.length)) (O1 ++ [some q])) :=
  impS (ps_set nd hi hx h hs hf) fun D σ H ⟨Φ, F, A, E, k⟩ => ⟨Φ, F, A, E, fun F' H' v A' a fp l E' hl hv hA => k F' H' _ A' l (E'.slot (x := some v) (c := .o O1.length) ⟨a, fp, by rw [hv], hA⟩ n)⟩
theorem ss_expr (h : SE X e C O O1 p) (hs : swapsWith e none pos.line X.env = pure false := by rfl) : SS X W (.Expr e pos) C O (.nx C O1) :=
  impS (ps_expr h hs) fun D σ H ⟨Φ, F, A, E, k⟩ => ⟨Φ, F, A, E, fun F' H' v A' l E' hv => k F' H' σ A' l E'⟩
theorem take_split {α : Type} {l l' : List α} (h : l.take l'.length = l') : l = l' ++ l.drop l'.length := by conv => lhs; rw [← List.take_append_drop l'.length l, h]
theorem ss_ret (h : SE X e C O O1 p) (hO : O1.take O2.length = O2 := by rfl) : SS X W (.Return (some e) pos) C O (.rt p O2) :=
  impS (ps_ret h) fun D σ H ⟨Φ, F, A, E, k⟩ => ⟨Φ, F, A, E, fun F' H' v A' l E' hv => k F' H' v A' (O1.drop O2.length) l (take_split hO ▸ E'.bare) hv⟩
theorem ss_retO {q : OP} (h : SO X e C O O1 q) (hO : O1.take O2.length = O2 := by rfl) : SS X W (.Return (some e) pos) C O (.ro q O2) :=
  impS (ps_ret h) fun D σ H ⟨Φ, F, A, E, k⟩ => ⟨Φ, F, A, E, fun F' H' v A' a fp l E' hl hv hA => by
    have e := take_split hO
    rw [e] at E' hl hA
    exact k F' H' v A' a fp (O1.drop O2.length) l E'.bare hl hv hA⟩
theorem ss_if {c : Expr} {s1 s2 : List Stmt} (hc : ST X c C O O1 b) (h1 : b = true → SB X W s1 C O1 o) (h2 : b = false → SB X W s2 C O1 o) : SS X W (.If c s1 s2 pos) C O o := by
  cases b with
  | true => exact impS (ps_if hc (h1 rfl) pss_never) fun D σ H ⟨Φ, F, A, E, k⟩ => ⟨Φ, F, A, E, fun F' H' A' l E' => iteT ⟨Φ, F', A', E', k.mono l⟩⟩
  | false => exact impS (ps_if hc pss_never (h2 rfl)) fun D σ H ⟨Φ, F, A, E, k⟩ => ⟨Φ, F, A, E, fun F' H' A' l E' => iteF ⟨Φ, F', A', E', k.mono l⟩⟩
/-- a list of our own, never changed from here on -/
theorem sb_freeze (n : Nat) {m : Nat} {lp : List VP} (h : SB X W ss (C.set n (.v (lstP lp))) (O.set m none) o) (hC : C[n]? = some (.o m) := by rfl) (hO : O[m]? = some (some (lstO lp)) := by rfl) : SB X W ss C O o :=
  impSs h fun D σ H ⟨Φ, F, A, E, k⟩ => by
    obtain ⟨F', A', l, E'⟩ := E.freeze hO hC
    exact ⟨Φ, F', A', E', k.mono l⟩
end
end SIM

end
section
namespace SIM
open PySem L2
/-! one of several readings -/
theorem ps_ex {X : Cx} {ss : List Stmt} {ι : Type} {P : ι → Prop} {t : ι → TS} (h : ∀ i, P i → PSs X ss (t i)) : PSs X ss (fun D σ H => ∃ i, P i ∧ t i D σ H) := ⟨fun pins s σ H D I ⟨i, p, w⟩ => (h i p).run pins s σ H D I w⟩
theorem pe_ex {X : Cx} {e : Expr} {ι : Type} {P : ι → Prop} {t : ι → TE} (h : ∀ i, P i → PE X e (t i)) : PE X e (fun σ H Q => ∃ i, P i ∧ t i σ H Q) := ⟨fun pins s σ H Q I ⟨i, p, w⟩ => (h i p).run pins s σ H Q I w⟩
theorem pt_ex {X : Cx} {e : Expr} {ι : Type} {P : ι → Prop} {t : ι → TT} (h : ∀ i, P i → PT X e (t i)) : PT X e (fun σ H Q => ∃ i, P i ∧ t i σ H Q) := ⟨fun pins s σ H Q I ⟨i, p, w⟩ => (h i p).run pins s σ H Q I w⟩
theorem pg_ex {X : Cx} {e : Expr} {ι : Type} {P : ι → Prop} {t : ι → TG} (h : ∀ i, P i → PG X e (t i)) : PG X e (fun v σ H Q => ∃ i, P i ∧ t i v σ H Q) := ⟨fun pins s σ H v u Q I r ⟨i, p, w⟩ => (h i p).run pins s σ H v u Q I r w⟩
/-! loops -/
inductive Ctl (ε ρ τ : Type) where
  | nx (s : τ)
  | rt (r : ρ)
  | ex (e : ε)
def loopM {α ε ρ τ : Type} (body : α → τ → Option (Ctl ε ρ τ)) : List α → τ → Option (Ctl ε ρ τ)
  | [], s => some (.nx s)
  | x :: xs, s => match body x s with
    | none => none
    | some (.nx s') => loopM body xs s'
    | some c => some c
def whileM {ε ρ τ : Type} (c : τ → Option Bool) (body : τ → Option (Ctl ε ρ τ)) : Nat → τ → Option (Ctl ε ρ τ)
  | 0, _ => none
  | n + 1, s => match c s with
    | none => none
    | some false => some (.nx s)
    | some true => match body s with
      | none => none
      | some (.nx s') => whileM c body n s'
      | some d => some d
def isNx : Out → Bool
  | .nx _ _ => true
  | _ => false
theorem notNx {o : Out} (h : isNx o = false) : ∀ C O, o ≠ .nx C O := fun C O z => by rw [z] at h; cases h
theorem post_rt {W : WX} {Φ : Frm} {F : Hp} {D D' : Ends} {o : Out} (h : o.post W Φ F D) (hn : isNx o = false) (hr : D'.rt = D.rt) : o.post W Φ F D' := by
  cases o with
  | nx C O => cases hn
  | rt p O => exact fun F2 H' v A' O2 l' E => by rw [hr]; exact h F2 H' v A' O2 l' E
  | ro q O => exact fun F2 H' v A' a fp O2 l' E => by rw [hr]; exact h F2 H' v A' a fp O2 l' E
  | ex e C O => exact h
section
variable {X : Cx} {W : WX} {C C' C1 C2 : List Cell} {O O' O1 O2 O3 : Ob} {p q r : VP} {ps qs : List VP} {tg e e1 e2 e3 : Expr} {es ts : List Expr} {pos : Pos} {i j k : Int} {b b1 b2 : Bool} {x : Str} {ss : List Stmt}
theorem item_out {Φ : Frm} {F F' H H' H3 : Hp} {σ : L2.St} {A : List (Addr × List Addr)} {v : V} (E : Ev Φ F H σ C O A) (y : (H3 = H ∧ p.p F v) ∨ ∃ T o, H T = none ∧ H3 = upd H T o ∧ ∀ F3, Le F F3 → F3 T = some o → p.p F3 v) :
    ∃ F3, Le F F3 ∧ Ev Φ F3 H3 σ C O A ∧ p.p F3 v := by
  rcases y with ⟨rfl, h⟩ | ⟨T, o, hT, rfl, h⟩
  · exact ⟨F, Le.refl, E, h⟩
  · exact ⟨upd F T o, Le.ext (E.fh.free hT), E.new hT, h _ (Le.ext (E.fh.free hT)) upd_same⟩
/-- for x in ..: the turns as loopM says -/
theorem ss_for {α ε ρ τ : Type} {vpa : α → VP} {xs : List α} {body : α → τ → Option (Ctl ε ρ τ)} {s0 : τ} {ctl : Ctl ε ρ τ} {ns : List Nat} (hm : loopM body xs s0 = some ctl) (cells : τ → List Cell) (obs : τ → Ob) (out : Ctl ε ρ τ → Out) (dc : α → τ → List Cell)
    (hps : ps = xs.map vpa) (hp : PassesOwn (model X.prog X.w) X.A X.env X.xe) (hc : X.calm = true) (hi : SI X tg e C O O1 ps)
    (hn : ∀ s, out (.nx s) = .nx (cells s) (obs s)) (hx : ∀ r, isNx (out (.rt r)) = false) (he : ∀ er, isNx (out (.ex er)) = false)
    (hC : Wk C (cells s0)) (hO : obs s0 = O1)
    (hg : ∀ x s, SG X tg (cells s) (vpa x) (dc x s) ns)
    (hb : ∀ x s c, x ∈ xs → body x s = some c → SB X W ss (dc x s) (obs s) (out c))
    (hs : ∀ x, foldedSetIterable e X.env x = pure x := by intro _; rfl) : SS X W (.For tg e ss [] pos) C O (out ctl) := by
  refine impS (ps_for hp hc hi (g := fun v σ H Q => ∃ i : α × τ, True ∧ rdG (cells i.2) (vpa i.1) (dc i.1 i.2) ns v σ H Q) (pg_ex fun i _ => hg i.1 i.2)
    (tb := fun D σ H => ∃ i : α × τ × Ctl ε ρ τ, (i.1 ∈ xs ∧ body i.1 i.2.1 = some i.2.2) ∧ rdS W (dc i.1 i.2.1) (obs i.2.1) (out i.2.2) D σ H) (ps_ex fun i hi => hb i.1 i.2.1 i.2.2 hi.1 hi.2) hs) ?_
  rintro D σ H ⟨Φ, F, A, E, k⟩
  refine ⟨Φ, F, A, E, fun J F1 H1 A1 l1 E1 Y => ?_⟩
  have E1' : Ev Φ F1 H1 σ (cells s0) (obs s0) A1 := hO ▸ E1.weak hC
  refine ⟨fun i m σ' H' => m = xs.length - i ∧ ∃ s F' A', i ≤ xs.length ∧ loopM body (xs.drop i) s = some ctl ∧ Le F1 F' ∧ Ev Φ F' H' σ' (cells s) (obs s) A', ⟨_, rfl, s0, F1, A1, Nat.zero_le _, hm, Le.refl, E1'⟩, ?_⟩
  rintro i m σ' H' ⟨rfl, s, F', A', hi', hl, l', E'⟩
  obtain ⟨y1, y2⟩ := Y i F' H' l' E'.fh
  by_cases hlt : i < xs.length
  · have hx' : xs[i]? = some xs[i] := List.getElem?_eq_getElem hlt
    obtain ⟨g1, g2⟩ := y2 (vpa xs[i]) (by rw [hps, List.getElem?_map, hx']; rfl)
    refine .inr ⟨g1, fun σ2 H2 => ∃ s2 F2 A2, loopM body (xs.drop (i + 1)) s2 = some ctl ∧ Le F1 F2 ∧ Ev Φ F2 H2 σ2 (cells s2) (obs s2) A2, ?_, ?_⟩
    · rintro σ2 H2 ⟨s2, F2, A2, h2, l2, E2⟩
      exact ⟨xs.length - (i + 1), by omega, rfl, s2, F2, A2, hlt, h2, l2, E2⟩
    · rintro v H3 hy
      obtain ⟨F3, l3, E3, h3⟩ := item_out (F' := F') (H' := H') E' (g2 v H3 hy)
      refine ⟨(xs[i], s), trivial, Φ, F3, _, A', E3, h3, fun σ2 _ E4 => ?_⟩
      rw [List.drop_eq_getElem_cons hlt, loopM] at hl
      cases hbd : body xs[i] s with
      | none => rw [hbd] at hl; cases hl
      | some c =>
        rw [hbd] at hl
        refine ⟨(xs[i], s, c), ⟨List.getElem_mem hlt, hbd⟩, Φ, F3, A', E4, ?_⟩
        cases c with
        | nx s2 =>
          show (out (.nx s2)).post W Φ F3 _
          rw [hn]
          exact fun F5 H5 σ5 A5 l5 E5 => ⟨s2, F5, A5, hl, l'.trans (l3.trans l5), E5⟩
        | rt r =>
          cases hl
          exact post_rt (k.mono ((l1.trans l').trans l3)) (hx r) rfl
        | ex er =>
          cases hl
          exact post_rt (k.mono ((l1.trans l').trans l3)) (he er) rfl
  · have e' : i = xs.length := by omega
    subst e'
    rw [List.drop_length, loopM] at hl
    cases hl
    rw [hn] at k
    exact .inl ⟨y1 (by rw [hps, List.length_map]), k F' H' σ' A' (l1.trans l') E'⟩
/-- while c: .. as whileM says -/
theorem ss_while {ε ρ τ : Type} {c : Expr} {cb : τ → Option Bool} {body : τ → Option (Ctl ε ρ τ)} {n : Nat} {s0 : τ} {ctl : Ctl ε ρ τ} (hm : whileM cb body n s0 = some ctl) (cells : τ → List Cell) (obs : τ → Ob) (out : Ctl ε ρ τ → Out)
    (hn : ∀ s, out (.nx s) = .nx (cells s) (obs s)) (hx : ∀ r, isNx (out (.rt r)) = false) (he : ∀ er, isNx (out (.ex er)) = false) (hC : Wk C (cells s0)) (hO : obs s0 = O)
    (ht : ∀ s b, cb s = some b → ST X c (cells s) (obs s) (obs s) b) (hb : ∀ s d, cb s = some true → body s = some d → SB X W ss (cells s) (obs s) (out d))
    (hp : PassesOwn (model X.prog X.w) X.A X.env X.xe := by exact passes_of rfl) : SS X W (.While c ss [] pos) C O (out ctl) := by
  refine impS (ps_while hp (tc := fun σ H Q => ∃ s : τ × Bool, cb s.1 = some s.2 ∧ rdT (cells s.1) (obs s.1) (obs s.1) s.2 σ H Q) (pt_ex fun s h => ht s.1 s.2 h)
    (tb := fun D σ H => ∃ i : τ × Ctl ε ρ τ, (cb i.1 = some true ∧ body i.1 = some i.2) ∧ rdS W (cells i.1) (obs i.1) (out i.2) D σ H) (ps_ex fun i hi => hb i.1 i.2 hi.1 hi.2)) ?_
  rintro D σ H ⟨Φ, F, A, E, k⟩
  have E1' : Ev Φ F H σ (cells s0) (obs s0) A := hO ▸ E.weak hC
  refine ⟨fun m σ' H' => ∃ s F' A', whileM cb body m s = some ctl ∧ Le F F' ∧ Ev Φ F' H' σ' (cells s) (obs s) A', ⟨n, s0, F, A, hm, Le.refl, E1'⟩, ?_⟩
  rintro m σ' H' ⟨s, F', A', hw, l', E'⟩
  cases m with
  | zero => rw [whileM] at hw; cases hw
  | succ m =>
    rw [whileM] at hw
    cases hc : cb s with
    | none => rw [hc] at hw; cases hw
    | some b =>
    refine ⟨(s, b), hc, Φ, F', A', E', fun F1 H1 A1 l1 E1 => ?_⟩
    rw [hc] at hw
    cases b with
    | false =>
      cases hw
      refine iteF ?_
      rw [hn] at k
      exact k F1 H1 σ' A1 (l'.trans l1) E1
    | true =>
      refine iteT ⟨fun σ2 H2 => ∃ s2 F2 A2, whileM cb body m s2 = some ctl ∧ Le F F2 ∧ Ev Φ F2 H2 σ2 (cells s2) (obs s2) A2, fun σ2 H2 h => ⟨m, Nat.lt_succ_self m, h⟩, ?_⟩
      cases hbd : body s with
      | none => dsimp only at hw; rw [hbd] at hw; cases hw
      | some d =>
        dsimp only at hw
        rw [hbd] at hw
        refine ⟨(s, d), ⟨hc, hbd⟩, Φ, F1, A1, E1, ?_⟩
        cases d with
        | nx s2 =>
          show (out (.nx s2)).post W Φ F1 _
          rw [hn]
          exact fun F5 H5 σ5 A5 l5 E5 => ⟨s2, F5, A5, hw, l'.trans (l1.trans l5), E5⟩
        | rt r =>
          cases hw
          exact post_rt (k.mono (l'.trans l1)) (hx r) rfl
        | ex er =>
          cases hw
          exact post_rt (k.mono (l'.trans l1)) (he er) rfl
end
end SIM

end
section
namespace SIM
open PySem L2
/-! comprehensions -/
def compM {α β τ : Type} (t : α → τ → Option Bool) (f : α → τ → Option (β × τ)) : List α → τ → Option (List β × τ)
  | [], s => some ([], s)
  | x :: xs, s => match t x s with
    | none => none
    | some false => compM t f xs s
    | some true => match f x s with
      | none => none
      | some (y, s') => match compM t f xs s' with
        | none => none
        | some (ys, s'') => some (y :: ys, s'')
theorem compM_len {α β τ : Type} {t : α → τ → Option Bool} {f : α → τ → Option (β × τ)} : ∀ {xs : List α} {s : τ} {ys : List β} {s1 : τ}, compM t f xs s = some (ys, s1) → ys.length ≤ xs.length
  | [], s, ys, s1, h => by cases h; exact Nat.le_refl _
  | x :: xs, s, ys, s1, h => by
    rw [compM] at h
    cases ht : t x s with
    | none => rw [ht] at h; cases h
    | some b =>
      rw [ht] at h
      cases b with
      | false =>
        have := compM_len h
        simp; omega
      | true =>
        dsimp only at h
        cases h1 : f x s with
        | none => rw [h1] at h; cases h
        | some r =>
          rw [h1] at h
          cases h2 : compM t f xs r.2 with
          | none => simp only [h2] at h; cases h
          | some r2 =>
            simp only [h2] at h; cases h
            have := compM_len h2
            simp; omega
/-- .. of a plain function -/
theorem compM_map {α β : Type} (f : α → β) : ∀ xs : List α, compM (fun _ _ => some true) (fun x (_ : Unit) => some (f x, ())) xs () = some (xs.map f, ())
  | [] => rfl
  | x :: xs => by rw [compM]; simp only [compM_map f xs]; rfl
theorem compM_filter {α β : Type} (t : α → Bool) (f : α → β) : ∀ xs : List α, compM (fun x (_ : Unit) => some (t x)) (fun x (_ : Unit) => some (f x, ())) xs () = some ((xs.filter t).map f, ())
  | [] => rfl
  | x :: xs => by
    rw [compM]
    cases h : t x with
    | true => simp only [compM_filter t f xs]; simp [h]
    | false => simp only [compM_filter t f xs]; simp [h]
theorem cks_iff {F : Hp} {A : List (Addr × List Addr)} : ∀ {σ : L2.St} {C : List Cell}, Cks F A σ C ↔ σ.length = C.length ∧ ∀ (i : Nat) x c, σ[i]? = some x → C[i]? = some c → Ck F A x c := by
  intro σ
  induction σ with
  | nil =>
    intro C
    constructor
    · intro h; cases h; exact ⟨rfl, fun i x c h => by simp at h⟩
    · rintro ⟨h, _⟩
      cases C with
      | nil => exact .nil
      | cons => simp at h
  | cons y σ ih =>
    intro C
    constructor
    · intro h
      cases h with
      | cons h t =>
        obtain ⟨h1, h2⟩ := ih.mp t
        refine ⟨by simp [h1], fun i x c e1 e2 => ?_⟩
        cases i with
        | zero => simp at e1 e2; subst e1 e2; exact h
        | succ i => exact h2 i x c (by simpa using e1) (by simpa using e2)
    · rintro ⟨h, k⟩
      cases C with
      | nil => simp at h
      | cons c C => exact .cons (k 0 y c rfl rfl) (ih.mpr ⟨by simpa using h, fun i x d e1 e2 => k (i + 1) x d (by simpa using e1) (by simpa using e2)⟩)
theorem Cks.but {F : Hp} {A : List (Addr × List Addr)} {vs : List Nat} {C D : List Cell} {σ σ' : L2.St} (hu : ∀ i ∈ vs, ∀ c, D[i]? = some c → c = .u) (hl : D.length = C.length) (hd : ∀ i, i ∉ vs → D[i]? = C[i]?) (b : But vs σ σ') (h : Cks F A σ C) : Cks F A σ' D := by
  obtain ⟨h1, h2⟩ := cks_iff.mp h
  refine cks_iff.mpr ⟨b.1.trans (h1.trans hl.symm), fun i x c e1 e2 => ?_⟩
  by_cases hi : i ∈ vs
  · rw [hu i hi c e2]; trivial
  · exact h2 i x c ((b.2 i hi).symm.trans e1) ((hd i hi).symm.trans e2)
theorem wipe_get {σ : L2.St} {i : Nat} : ∀ {vs : List Nat}, i ∈ vs → i < σ.length → (wipe σ vs)[i]? = some none
  | v :: vs, h, hl => by
    unfold wipe
    by_cases hv : v = i
    · subst hv; rw [List.getElem?_set_self (by rw [wipe_length]; exact hl)]
    · rw [List.getElem?_set_ne hv]
      exact wipe_get ((List.mem_cons.mp h).resolve_left (fun e => hv e.symm)) hl
theorem wipe_but {σ : L2.St} {vs : List Nat} : But vs σ (wipe σ vs) := ⟨wipe_length σ vs, fun k hk => wipe_out hk⟩
theorem wipe_eq {σ σ2 : L2.St} {vs ns : List Nat} (b : But ns (wipe σ vs) σ2) (h : ∀ n ∈ ns, n ∈ vs) : wipe σ2 vs = wipe σ vs := by
  have hl : σ2.length = σ.length := b.1.trans (wipe_length σ vs)
  refine List.ext_getElem? fun k => ?_
  by_cases hk : k ∈ vs
  · by_cases hk2 : k < σ.length
    · rw [wipe_get hk (by rw [hl]; exact hk2), wipe_get hk hk2]
    · rw [List.getElem?_eq_none (by rw [wipe_length]; omega), List.getElem?_eq_none (by rw [wipe_length]; omega)]
  · rw [wipe_out hk, b.2 k (fun z => hk (h k z))]
theorem Ev.but {Φ : Frm} {F H : Hp} {σ σ' : L2.St} {C : List Cell} {O : Ob} {A : List (Addr × List Addr)} {vs : List Nat} (E : Ev Φ F H σ C O A) (hu : ∀ i ∈ vs, ∀ c, C[i]? = some c → c = .u) (b : But vs σ σ') : Ev Φ F H σ' C O A :=
  ⟨E.ck.but hu rfl (fun _ _ => rfl) b, E.len, E.ob, E.no, E.dj, E.pre, E.fh, E.ff, E.kp, E.nw, E.dm, E.pm⟩
theorem But.symm {vs : List Nat} {σ σ' : L2.St} (b : But vs σ σ') : But vs σ' σ := ⟨b.1.symm, fun k hk => (b.2 k hk).symm⟩
/-- an object whose address is known -/
def pinO (D : Addr) (q : OP) : OP where
  mine := q.mine
  p F H a fp := a = D ∧ q.p F H a fp
  mono k e h := ⟨h.1, q.mono k e h.2⟩
section
variable {X : Cx} {W : WX} {C C' C1 C2 : List Cell} {O O' O1 O2 O3 : Ob} {p q r : VP} {ps qs : List VP} {tg elt e e1 e2 e3 : Expr} {es ts : List Expr} {pos : Pos} {i j k : Int} {b b1 b2 : Bool} {x : Str} {ss : List Stmt}
/-- the reading of a comprehension -/
theorem lcI {α β τ : Type} {vpa : α → VP} {vpb : β → VP} {xs : List α} {t : α → τ → Option Bool} {f : α → τ → Option (β × τ)} {s0 s1 : τ} {ys : List β} {vs ns : List Nat} (hm : compM t f xs s0 = some (ys, s1)) (obs : τ → Ob) (dc : α → List Cell)
    (hps : ps = xs.map vpa) (hz : xs.length ≤ 1000) (hO : obs s0 = O1) (hu : ∀ i ∈ vs, ∀ c, C[i]? = some c → c = .u) (hns : ∀ n ∈ ns, n ∈ vs) (hol : ∀ s, (obs s).length = O1.length) (hdl : ∀ x, (dc x).length = C.length) (hdc : ∀ x i, i ∉ vs → C[i]? = (dc x)[i]?) {σ : L2.St} {H : Hp} {Q : VK} (h : rdO C O (obs s1) (lstO (ys.map vpb)) σ H Q) :
    tLc (rdI C O O1 ps) (fun v σ H Q => ∃ x : α, True ∧ rdG C (vpa x) (dc x) ns v σ H Q) (fun σ H Q => ∃ i : α × τ × OP × Bool, t i.1 i.2.1 = some i.2.2.2 ∧ rdT (dc i.1) (obs i.2.1 ++ [some i.2.2.1]) (obs i.2.1 ++ [some i.2.2.1]) i.2.2.2 σ H Q)
      (fun σ H Q => ∃ i : α × τ × OP × β × τ, (i.1 ∈ xs ∧ t i.1 i.2.1 = some true ∧ f i.1 i.2.1 = some (i.2.2.2.1, i.2.2.2.2)) ∧ rdE (dc i.1) (obs i.2.1 ++ [some i.2.2.1]) (obs i.2.2.2.2 ++ [some i.2.2.1]) (vpb i.2.2.2.1) σ H Q) vs σ H Q := by
  obtain ⟨Φ, F, A, E, k⟩ := h
  refine ⟨Φ, F, A, E, fun J F1 H1 A1 l1 E1 Y D hD => ?_⟩
  have E2 : Ev Φ F1 (upd H1 D (.lst [])) (wipe σ vs) C (obs s0 ++ [some (pinO D (lstO ([].map vpb)))]) (A1 ++ [(D, [D])]) := hO ▸ (E1.own (q := pinO D (lstO [])) (a := D) (fp := [D]) (E1.beside hD) ⟨rfl, rfl, [], upd_same, .nil⟩ fun b hb => by
    rw [List.mem_singleton.mp hb]
    exact ⟨hD, by rw [upd_same]; exact Option.some_ne_none _⟩).but hu wipe_but
  refine ⟨fun i m H' => m = xs.length - i ∧ ∃ acc rest s F' A', i ≤ xs.length ∧ acc.length ≤ i ∧ compM t f (xs.drop i) s = some (rest, s1) ∧ acc ++ rest = ys ∧ Le F1 F' ∧ Ev Φ F' H' (wipe σ vs) C (obs s ++ [some (pinO D (lstO (acc.map vpb)))]) A',
    ⟨_, rfl, [], ys, s0, F1, _, Nat.zero_le _, Nat.le_refl _, hm, rfl, Le.refl, E2⟩, ?_⟩
  rintro i m H' ⟨rfl, acc, rest, s, F', A', hi', ha, hl, hac, l', E'⟩
  obtain ⟨y1, y2⟩ := Y i F' H' l' E'.fh
  by_cases hlt : i < xs.length
  · have hx' : xs[i]? = some xs[i] := List.getElem?_eq_getElem hlt
    obtain ⟨g1, g2⟩ := y2 (vpa xs[i]) (by rw [hps, List.getElem?_map, hx']; rfl)
    refine .inr ⟨g1, fun H2 => ∃ acc2 rest2 s2 F2 A2, acc2.length ≤ i + 1 ∧ compM t f (xs.drop (i + 1)) s2 = some (rest2, s1) ∧ acc2 ++ rest2 = ys ∧ Le F1 F2 ∧ Ev Φ F2 H2 (wipe σ vs) C (obs s2 ++ [some (pinO D (lstO (acc2.map vpb)))]) A2, ?_, ?_⟩
    · rintro H2 ⟨acc2, rest2, s2, F2, A2, h1, h2, h3, l2, E2⟩
      exact ⟨xs.length - (i + 1), by omega, rfl, acc2, rest2, s2, F2, A2, hlt, h1, h2, h3, l2, E2⟩
    · rintro v H3 hy
      obtain ⟨F3, l3, E3, h3⟩ := item_out (F' := F') (H' := H') E' (g2 v H3 hy)
      refine ⟨xs[i], trivial, _, F3, _, A', E3, h3, fun σ2 bt E4 => ⟨wipe_eq bt hns, ?_⟩⟩
      have back : ∀ {F H O A}, Ev Φ F H σ2 (dc xs[i]) O A → Ev Φ F H (wipe σ vs) C O A := fun {F H O A} Ex => ⟨Ex.ck.but hu (hdl _).symm (hdc _) ⟨bt.1.symm, fun k hk => (bt.2 k fun z => hk (hns k z)).symm⟩, Ex.len, Ex.ob, Ex.no, Ex.dj, Ex.pre, Ex.fh, Ex.ff, Ex.kp, Ex.nw, Ex.dm, Ex.pm⟩
      rw [List.drop_eq_getElem_cons hlt, compM] at hl
      cases ht : t xs[i] s with
      | none => rw [ht] at hl; cases hl
      | some bt' =>
      refine ⟨(xs[i], s, pinO D (lstO (acc.map vpb)), bt'), ht, _, F3, A', E4, fun F5 H5 A5 l5 E5 => ?_⟩
      cases bt' with
      | false =>
        rw [ht] at hl
        refine iteF ⟨acc, rest, s, F5, A5, by omega, hl, hac, l'.trans (l3.trans l5), back E5⟩
      | true =>
        rw [ht] at hl
        dsimp only at hl
        refine iteT ?_
        cases hf : f xs[i] s with
        | none => rw [hf] at hl; cases hl
        | some r =>
          obtain ⟨y, s2⟩ := r
          rw [hf] at hl
          cases hr : compM t f (xs.drop (i + 1)) s2 with
          | none => simp only [hr] at hl; cases hl
          | some r2 =>
            obtain ⟨ys2, s3⟩ := r2
            simp only [hr] at hl; cases hl
            refine ⟨(xs[i], s, pinO D (lstO (acc.map vpb)), y, s2), ⟨List.getElem_mem hlt, ht, hf⟩, _, F5, A5, E5, fun F6 H6 w A6 l6 E6 hw => ?_⟩
            have hO6 : (obs s2 ++ [some (pinO D (lstO (acc.map vpb)))])[O1.length]? = some (some (pinO D (lstO (acc.map vpb)))) := by rw [← hol s2]; simp
            obtain ⟨a', fp', hfp, Jo⟩ := E6.ob _ _ hO6
            obtain ⟨rfl, rfl, vs', hv', al⟩ := Jo.ok
            have hlen := al.len
            rw [List.length_map] at hlen
            refine ⟨vs', hv', Nat.lt_of_le_of_lt (m := 1000) (by omega) (by decide), acc ++ [y], ys2, s2, F6, A6.set O1.length (a', [a']), by simp; omega, hr, by simpa using hac, l'.trans (l3.trans (l5.trans l6)), ?_⟩
            have E7 := E6.write (H' := upd H6 a' (.lst (vs' ++ [w]))) (q' := pinO a' (lstO ((acc ++ [y]).map vpb))) (fp' := [a']) hO6 hfp rfl ⟨rfl, rfl, _, upd_same, by rw [List.map_append]; exact al.app (.cons hw .nil)⟩
              (fun b hb _ => upd_ne (fun z => hb (List.mem_singleton.mpr z))) (fun b hb => by
                by_cases z : b = a'
                · rw [z, upd_same]; exact Option.some_ne_none _
                · rw [upd_ne z]; exact hb) (fun b hb => ⟨.inl hb, by rw [List.mem_singleton.mp hb, upd_same]; exact Option.some_ne_none _⟩)
            have hset : (obs s2 ++ [some (pinO a' (lstO (acc.map vpb)))]).set O1.length (some (pinO a' (lstO ((acc ++ [y]).map vpb)))) = obs s2 ++ [some (pinO a' (lstO ((acc ++ [y]).map vpb)))] := by rw [← hol s2]; simp
            rw [hset] at E7
            exact back E7
  · have e' : i = xs.length := by omega
    subst e'
    rw [List.drop_length, compM] at hl
    cases hl
    rw [List.append_nil] at hac
    subst hac
    have hOe : (obs s1 ++ [some (pinO D (lstO (acc.map vpb)))])[O1.length]? = some (some (pinO D (lstO (acc.map vpb)))) := by rw [← hol s1]; simp
    obtain ⟨a', fp, hfp, Jo⟩ := E'.ob _ _ hOe
    obtain ⟨rfl, _⟩ := Jo.ok
    have E9 := E'.reop (q' := lstO (acc.map vpb)) hOe (fun _ _ _ _ h => h.2) rfl
    have hset : (obs s1 ++ [some (pinO a' (lstO (acc.map vpb)))]).set O1.length (some (lstO (acc.map vpb))) = obs s1 ++ [some (lstO (acc.map vpb))] := by rw [← hol s1]; simp
    rw [hset] at E9
    exact .inl ⟨y1 (by rw [hps, List.length_map]), k F' H' _ A' a' fp (l1.trans l') (E9.but hu wipe_but.symm) (by rw [hol]; have := E1.asl; exact this) rfl (by rw [hol]; exact hfp)⟩
theorem impTs {ifs : List Expr} {t t' : TT} (h : PTs X ifs t) (k : ∀ σ H Q, t' σ H Q → t σ H Q) : PTs X ifs t' := ⟨fun pins s σ H Q I w => h.run pins s σ H Q I (k σ H Q w)⟩
theorem pts_ex {ifs : List Expr} {ι : Type} {P : ι → Prop} {t : ι → TT} (h : ∀ i, P i → PTs X ifs (t i)) : PTs X ifs (fun σ H Q => ∃ i, P i ∧ t i σ H Q) := ⟨fun pins s σ H Q I ⟨i, p, w⟩ => (h i p).run pins s σ H Q I w⟩
/-- the block of a comprehension -/
abbrev Blk (X : Cx) (scope : Scope) (s : Shared) (H : Hp) (cc : Addr) (cl : List (Str × Addr)) (fp : List Addr) : Cx := X.blk s H scope (compEnvC scope cl cc X.env) fp
abbrev STs (X : Cx) (ifs : List Expr) (C : List Cell) (O : Ob) (b : Bool) : Prop := PTs X ifs (rdT C O O b)
theorem sts_nil : STs X [] C O true := impTs pts_nil fun σ H Q ⟨Φ, F, A, E, k⟩ => k F H A Le.refl E
theorem sts_one {c : Expr} (h : ST X c C O O b) : STs X [c] C O b := pts_one h
/-- [elt for tg in iter if ..] -/
theorem so_lc {α β τ : Type} {vpa : α → VP} {vpb : β → VP} {xs : List α} {t : α → τ → Option Bool} {f : α → τ → Option (β × τ)} {s0 s1 : τ} {ys : List β} {ns : List Nat} {scope : Scope} {own : List (Str × Nat)} {iter : Expr} {ifs : List Expr}
    (hm : compM t f xs s0 = some (ys, s1)) (obs : τ → Ob) (dc : α → List Cell) (nd : X.N.Nodup) (ok : BlkOk X.N X.env.scope scope own) (hi : SI X tg iter C O O1 ps) (hps : ps = xs.map vpa) (hz : xs.length ≤ 1000)
    (hO : obs s0 = O1) (hu : ∀ i ∈ own.map (·.2), ∀ c, C[i]? = some c → c = .u) (hns : ∀ n ∈ ns, n ∈ own.map (·.2)) (hol : ∀ s, (obs s).length = O1.length) (hdl : ∀ x, (dc x).length = C.length) (hdc : ∀ x i, i ∉ own.map (·.2) → C[i]? = (dc x)[i]?)
    (hg : ∀ s H cc cl fp x, SG (Blk X scope s H cc cl fp) tg C (vpa x) (dc x) ns)
    (ht : ∀ s H cc cl fp x st q b, t x st = some b → STs (Blk X scope s H cc cl fp) ifs (dc x) (obs st ++ [some q]) b)
    (he : ∀ s H cc cl fp x st q y st', x ∈ xs → t x st = some true → f x st = some (y, st') → PE (Blk X scope s H cc cl fp) elt (rdE (dc x) (obs st ++ [some q]) (obs st' ++ [some q]) (vpb y)))
    (hc : X.calm = true := by rfl) (hs : ∀ x, foldedSetIterable iter X.env x = pure x := by intro _; rfl) : SO X (.ListComp elt [⟨tg, iter, ifs, 0⟩] scope pos) C O (obs s1) (lstO (ys.map vpb)) :=
  imp (pe_lc hc nd hi ok (fun s H cc cl fp => pg_ex fun x _ => hg s H cc cl fp x) (fun s H cc cl fp => pts_ex fun i h => ht s H cc cl fp i.1 i.2.1 i.2.2.1 i.2.2.2 h) (fun s H cc cl fp => pe_ex fun i h => he s H cc cl fp i.1 i.2.1 i.2.2.1 i.2.2.2.1 i.2.2.2.2 h.1 h.2.1 h.2.2) hs)
    fun σ H Q h => lcI hm obs dc hps hz hO hu hns hol hdl hdc h
/-- name = [..] on one line -/
theorem ss_setLc {α β τ : Type} {vpa : α → VP} {vpb : β → VP} {xs : List α} {t : α → τ → Option Bool} {f : α → τ → Option (β × τ)} {s0 s1 : τ} {ys : List β} {ns : List Nat} {scope : Scope} {own : List (Str × Nat)} {iter : Expr} {ifs : List Expr} {y : Str} {py spos : Pos} (n : Nat)
    (hm : compM t f xs s0 = some (ys, s1)) (obs : τ → Ob) (dc : α → List Cell) (nd : X.N.Nodup) (ok : BlkOk X.N X.env.scope scope own) (hi : SI X tg iter C O O1 ps) (hps : ps = xs.map vpa) (hz : xs.length ≤ 1000)
    (hO : obs s0 = O1) (hu : ∀ i ∈ own.map (·.2), ∀ c, C[i]? = some c → c = .u) (hns : ∀ n ∈ ns, n ∈ own.map (·.2)) (hol : ∀ s, (obs s).length = O1.length) (hdl : ∀ x, (dc x).length = C.length) (hdc : ∀ x i, i ∉ own.map (·.2) → C[i]? = (dc x)[i]?)
    (hg : ∀ s H cc cl fp x, SG (Blk X scope s H cc cl fp) tg C (vpa x) (dc x) ns)
    (ht : ∀ s H cc cl fp x st q b, t x st = some b → STs (Blk X scope s H cc cl fp) ifs (dc x) (obs st ++ [some q]) b)
    (he : ∀ s H cc cl fp x st q y st', x ∈ xs → t x st = some true → f x st = some (y, st') → PE (Blk X scope s H cc cl fp) elt (rdE (dc x) (obs st ++ [some q]) (obs st' ++ [some q]) (vpb y)))
    (hsw : swapsWith (.ListComp elt [⟨tg, iter, ifs, 0⟩] scope pos) (some (.Name y py)) spos.line X.env = pure true)
    (hc : X.calm = true := by rfl) (hy : X.N[n]? = some y := by rfl) (hyl : X.env.scope.names.lookup y = some .local := by rfl) (hs : ∀ x, foldedSetIterable iter X.env x = pure x := by intro _; rfl) :
    SS X W (.Assign [.Name y py] (.ListComp elt [⟨tg, iter, ifs, 0⟩] scope pos) spos) C O (.nx (C.set n (.o (obs s1).length)) (obs s1 ++ [some (lstO (ys.map vpb))])) :=
  impS (ps_setLc hc nd hy hyl hsw hi ok (fun s H cc cl fp => pg_ex fun x _ => hg s H cc cl fp x) (fun s H cc cl fp => pts_ex fun i h => ht s H cc cl fp i.1 i.2.1 i.2.2.1 i.2.2.2 h) (fun s H cc cl fp => pe_ex fun i h => he s H cc cl fp i.1 i.2.1 i.2.2.1 i.2.2.2.1 i.2.2.2.2 h.1 h.2.1 h.2.2) hs)
    fun D σ H ⟨Φ, F, A, E, k⟩ => lcI hm obs dc hps hz hO hu hns hol hdl hdc ⟨Φ, F, A, E, fun F' H' v A' a fp l E' hl hv hA => k F' H' _ A' l (E'.slot (x := some v) (c := .o (obs s1).length) ⟨a, fp, by rw [hv], hA⟩ n)⟩
/-! sources -/
theorem yld_list {K : PySem.W.Frag} {F : Hp} {a : Addr} {vs : List V} (h : F a = some (.lst vs)) (al : Al F vs ps) : Yld F (Itl K a) ps := fun i F' H' l1 l2 => by
  have hH : SqL K H' a vs := SqL.of (l2 _ _ (l1 _ _ h))
  refine ⟨fun e => ⟨vs, hH, by rw [al.len]; omega⟩, fun p hp => ?_⟩
  obtain ⟨v, hv, hpv⟩ := al.get hp
  exact ⟨⟨vs, v, hH, hv⟩, fun x H3 ⟨e1, e2⟩ => .inl ⟨e1, by have := e2 vs hH; rw [hv] at this; cases this; exact p.mono l1 hpv⟩⟩
theorem yld_tup {K : PySem.W.Frag} {F : Hp} {a : Addr} {vs : List V} (h : F a = some (.tup vs)) (al : Al F vs ps) : Yld F (Itt K a) ps := fun i F' H' l1 l2 => by
  have hH : SqT K H' a vs := SqT.of (l2 _ _ (l1 _ _ h))
  refine ⟨fun e => ⟨vs, hH, by rw [al.len]; omega⟩, fun p hp => ?_⟩
  obtain ⟨v, hv, hpv⟩ := al.get hp
  exact ⟨⟨vs, v, hH, hv⟩, fun x H3 ⟨e1, e2⟩ => .inl ⟨e1, by have := e2 vs hH; rw [hv] at this; cases this; exact p.mono l1 hpv⟩⟩
theorem si_tup (h : SE X e C O O1 (tupP ps)) : SI X tg e C O O1 ps := impI (pi_tup h) fun σ H R ⟨Φ, F, A, E, k⟩ => ⟨Φ, F, A, E, fun F1 H1 v A1 l1 E1 ⟨a, vs, ev, hF, al⟩ => ⟨a, ev, ⟨vs, SqT.of (E1.fh _ _ hF)⟩, k _ F1 H1 A1 l1 E1 (yld_tup hF al)⟩⟩
theorem si_lst (h : SE X e C O O1 (lstP ps)) : SI X tg e C O O1 ps := impI (pi_list h) fun σ H R ⟨Φ, F, A, E, k⟩ => ⟨Φ, F, A, E, fun F1 H1 v A1 l1 E1 ⟨a, vs, ev, hF, al⟩ => ⟨a, ev, ⟨vs, SqL.of (E1.fh _ _ hF)⟩, k _ F1 H1 A1 l1 E1 (yld_list hF al)⟩⟩
/-- lo, lo + 1, .. below hi -/
def rangeL (lo hi : Int) : List Int := (List.range (hi - lo).toNat).map fun n : Nat => lo + (n : Int)
theorem rangeL_length {lo hi : Int} : (rangeL lo hi).length = (hi - lo).toNat := by simp [rangeL]
theorem yld_range {F : Hp} {lo hi : Int} {n : Nat} (h : n = (hi - lo).toNat) : Yld F (Itr lo n) ((rangeL lo hi).map vp) := fun i F' H' l1 l2 => by
  refine ⟨fun e => by rw [List.length_map, rangeL_length] at e; show n ≤ i; omega, fun p hp => ?_⟩
  rw [List.getElem?_map, rangeL, List.getElem?_map] at hp
  have hi : i < (hi - lo).toNat := by
    cases e : (List.range (hi - lo).toNat)[i]? with
    | none => rw [e] at hp; cases hp
    | some m => have := (List.getElem?_eq_some_iff.mp e).1; simpa using this
  rw [List.getElem?_range hi] at hp
  cases hp
  exact ⟨by show i < n; omega, fun x H3 ⟨e1, e2⟩ => .inl ⟨e1, e2⟩⟩
theorem si_range1 {p1 : Pos} (hm : X.mg "range" = none) (h : SE X e C O O1 (vp i)) (hb : -1000000 ≤ i ∧ i ≤ 1000000) (hg : Gl X "range" := by rfl) (ns : starEach [e] X.env = (false, eval e X.env) :: starEach [] X.env := by rfl) (ns2 : starEach [e] X.env = [(false, eval e X.env)] := by rfl) :
    SI X tg (.Call (.Name "range" p1) [e] [] pos) C O O1 ((rangeL 0 i).map vp) :=
  impI (pi_range1 hg hm (pa_cons h pa_nil ns) ns2) fun σ H R ⟨Φ, F, A, E, k⟩ => ⟨Φ, F, A, E, fun F1 H1 v A1 l1 E1 hv => ⟨i, by rw [show v = V.int i from hv], by omega, by omega, k _ F1 H1 A1 l1 E1 (yld_range (by omega))⟩⟩
theorem si_range2 {p1 : Pos} (hm : X.mg "range" = none) (h1 : SE X e1 C O O1 (vp i)) (h2 : SE X e2 C O1 O2 (vp j)) (hb : (-1000000 ≤ i ∧ i ≤ 1000000) ∧ -1000000 ≤ j ∧ j ≤ 1000000) (hg : Gl X "range" := by rfl) (ns : starEach [e1, e2] X.env = (false, eval e1 X.env) :: starEach [e2] X.env := by rfl) (ns' : starEach [e2] X.env = (false, eval e2 X.env) :: starEach [] X.env := by rfl)
    (ns2 : starEach [e1, e2] X.env = [(false, eval e1 X.env), (false, eval e2 X.env)] := by rfl) (ns3 : starEach [e2] X.env = [(false, eval e2 X.env)] := by rfl) :
    SI X tg (.Call (.Name "range" p1) [e1, e2] [] pos) C O O2 ((rangeL i j).map vp) :=
  impI (pi_range2 hg hm (pa_cons h1 (pa_cons h2 pa_nil ns') ns) ns2 ns3) fun σ H R ⟨Φ, F, A, E, k⟩ => ⟨Φ, F, A, E, fun F1 H1 v A1 l1 E1 hv => ⟨Φ, F1, A1, E1, fun F2 H2 w A2 l2 E2 hw => ⟨i, j, by rw [show v = V.int i from hv, show w = V.int j from hw], ⟨by omega, by omega, by omega, by omega⟩, k _ F2 H2 A2 (l1.trans l2) E2 (yld_range rfl)⟩⟩⟩
def zipP : List VP → List VP → List VP
  | p :: ps, q :: qs => tupP [p, q] :: zipP ps qs
  | _, _ => []
theorem zipP_get : ∀ {ps qs : List VP} {i : Nat} {r : VP}, (zipP ps qs)[i]? = some r → ∃ p q, ps[i]? = some p ∧ qs[i]? = some q ∧ r = tupP [p, q]
  | p :: ps, q :: qs, 0, r, h => by rw [zipP] at h; cases h; exact ⟨p, q, rfl, rfl, rfl⟩
  | p :: ps, q :: qs, i + 1, r, h => by rw [zipP, List.getElem?_cons_succ] at h; exact zipP_get (i := i) h
  | [], _, i, r, h => by simp [zipP] at h
  | _ :: _, [], i, r, h => by simp [zipP] at h
theorem zipP_len : ∀ {ps qs : List VP}, ps.length = qs.length → (zipP ps qs).length = ps.length
  | [], [], _ => rfl
  | p :: ps, q :: qs, h => by rw [zipP, List.length_cons, List.length_cons, zipP_len (by simpa using h)]
theorem zipP_map {α β : Type} [Rp α] [Rp β] : ∀ (xs : List α) (ys : List β), zipP (xs.map vp) (ys.map vp) = (xs.zip ys).map vp
  | [], _ => rfl
  | _ :: _, [] => rfl
  | x :: xs, y :: ys => by
    rw [List.map_cons, List.map_cons, zipP, zipP_map xs ys, List.zip_cons_cons, List.map_cons]; rfl
theorem zipP_len' : ∀ (ps qs : List VP), (zipP ps qs).length = min ps.length qs.length
  | [], _ => by simp [zipP]
  | _ :: _, [] => by simp [zipP]
  | p :: ps, q :: qs => by rw [zipP, List.length_cons, List.length_cons, List.length_cons, zipP_len' ps qs]; omega
theorem yld_zipT {K : PySem.W.Frag} {F : Hp} {a b : Addr} {vs us : List V} (h : F a = some (.tup vs)) (al : Al F vs ps) (h' : F b = some (.tup us)) (al' : Al F us qs) : Yld F (RZ.ItzT K a b) (zipP ps qs) := fun i F' H' l1 l2 => by
  have hH : SqT K H' a vs := SqT.of (l2 _ _ (l1 _ _ h))
  have hH' : SqT K H' b us := SqT.of (l2 _ _ (l1 _ _ h'))
  have e1 := al.len
  have e2 := al'.len
  refine ⟨fun e => ⟨vs, us, hH, hH', by rw [zipP_len'] at e; omega⟩, fun p hp => ?_⟩
  obtain ⟨p1, p2, g1, g2, rfl⟩ := zipP_get hp
  obtain ⟨v, hv, hpv⟩ := al.get g1
  obtain ⟨u, hu, hpu⟩ := al'.get g2
  refine ⟨⟨vs, us, v, u, hH, hH', hv, hu⟩, fun x H3 ⟨T, v', u', e1, hT, e2, f1, f2⟩ => .inr ⟨T, _, hT, e2, fun F3 l3 hF3 => ?_⟩⟩
  have z1 := f1 vs hH; rw [hv] at z1; cases z1
  have z2 := f2 us hH'; rw [hu] at z2; cases z2
  exact ⟨T, _, e1, hF3, .cons (p1.mono (l1.trans l3) hpv) (.cons (p2.mono (l1.trans l3) hpu) .nil)⟩
theorem yld_zipL {K : PySem.W.Frag} {F : Hp} {a b : Addr} {vs us : List V} (h : F a = some (.lst vs)) (al : Al F vs ps) (h' : F b = some (.lst us)) (al' : Al F us qs) : Yld F (Itz K a b) (zipP ps qs) := fun i F' H' l1 l2 => by
  have hH : SqL K H' a vs := SqL.of (l2 _ _ (l1 _ _ h))
  have hH' : SqL K H' b us := SqL.of (l2 _ _ (l1 _ _ h'))
  have e1 := al.len
  have e2 := al'.len
  refine ⟨fun e => ⟨vs, us, hH, hH', by rw [zipP_len'] at e; omega⟩, fun p hp => ?_⟩
  obtain ⟨p1, p2, g1, g2, rfl⟩ := zipP_get hp
  obtain ⟨v, hv, hpv⟩ := al.get g1
  obtain ⟨u, hu, hpu⟩ := al'.get g2
  refine ⟨⟨vs, us, v, u, hH, hH', hv, hu⟩, fun x H3 ⟨T, v', u', e1, hT, e2, f1, f2⟩ => .inr ⟨T, _, hT, e2, fun F3 l3 hF3 => ?_⟩⟩
  have z1 := f1 vs hH; rw [hv] at z1; cases z1
  have z2 := f2 us hH'; rw [hu] at z2; cases z2
  exact ⟨T, _, e1, hF3, .cons (p1.mono (l1.trans l3) hpv) (.cons (p2.mono (l1.trans l3) hpu) .nil)⟩
theorem si_zipT {p1 tpos : Pos} {kk : Nat} (hm : X.mg "zip" = none) (h1 : SE X e1 C O O1 (tupP ps)) (h2 : SE X e2 C O1 O2 (tupP qs)) (hg : Gl X "zip" := by rfl) (ns : starEach [e1, e2] X.env = (false, eval e1 X.env) :: starEach [e2] X.env := by rfl) (ns' : starEach [e2] X.env = (false, eval e2 X.env) :: starEach [] X.env := by rfl)
    (hpl : (backTo pos (starEach [e2] X.env)).any (·.1) = false := by rfl) : SI X (.Tuple es kk tpos) (.Call (.Name "zip" p1) [e1, e2] [] pos) C O O2 (zipP ps qs) :=
  impI (RZ.pi_zipA hg hm (pa_cons h1 (pa_cons h2 pa_nil ns') ns) ns hpl) fun σ H R ⟨Φ, F, A, E, k⟩ => ⟨Φ, F, A, E, fun F1 H1 v A1 l1 E1 ⟨a, vs, ev, hF, al⟩ => ⟨Φ, F1, A1, E1, fun F2 H2 w A2 l2 E2 ⟨b, us, ew, hF', al'⟩ => ⟨a, b, vs, us, by rw [ev, ew], .inr ⟨SqT.of (E2.fh _ _ (l2 _ _ hF)), SqT.of (E2.fh _ _ hF'), k _ F2 H2 A2 (l1.trans l2) E2 (yld_zipT (l2 _ _ hF) (al.mono l2) hF' al')⟩⟩⟩⟩
theorem si_zipL {p1 tpos : Pos} {kk : Nat} (hm : X.mg "zip" = none) (h1 : SE X e1 C O O1 (lstP ps)) (h2 : SE X e2 C O1 O2 (lstP qs)) (hg : Gl X "zip" := by rfl) (ns : starEach [e1, e2] X.env = (false, eval e1 X.env) :: starEach [e2] X.env := by rfl) (ns' : starEach [e2] X.env = (false, eval e2 X.env) :: starEach [] X.env := by rfl)
    (hpl : (backTo pos (starEach [e2] X.env)).any (·.1) = false := by rfl) : SI X (.Tuple es kk tpos) (.Call (.Name "zip" p1) [e1, e2] [] pos) C O O2 (zipP ps qs) :=
  impI (RZ.pi_zipA hg hm (pa_cons h1 (pa_cons h2 pa_nil ns') ns) ns hpl) fun σ H R ⟨Φ, F, A, E, k⟩ => ⟨Φ, F, A, E, fun F1 H1 v A1 l1 E1 ⟨a, vs, ev, hF, al⟩ => ⟨Φ, F1, A1, E1, fun F2 H2 w A2 l2 E2 ⟨b, us, ew, hF', al'⟩ => ⟨a, b, vs, us, by rw [ev, ew], .inl ⟨SqL.of (E2.fh _ _ (l2 _ _ hF)), SqL.of (E2.fh _ _ hF'), k _ F2 H2 A2 (l1.trans l2) E2 (yld_zipL (l2 _ _ hF) (al.mono l2) hF' al')⟩⟩⟩⟩
end
end SIM

end
section
namespace SIM
open PySem L2
/-! calls: the objects at js are handed over -/
def pick {α : Type} (l : List α) (d : α) (js : List Nat) : List α := js.map fun j => l.getD j d
theorem pick_get {α : Type} {l : List α} {d : α} {js : List Nat} {k j : Nat} (h : js[k]? = some j) (hj : j < l.length) : (pick l d js)[k]? = l[j]? := by
  unfold pick
  rw [List.getElem?_map, h, List.getElem?_eq_getElem hj, Option.map_some, List.getD_eq_getElem?_getD, List.getElem?_eq_getElem hj]; rfl
theorem pick_len {α : Type} {l : List α} {d : α} {js : List Nat} : (pick l d js).length = js.length := List.length_map _
abbrev tagO (t : Bool) : Option OP → Option OP := Option.map (OP.tag t)
/-- the callee's objects at its entry -/
def inO (O : Ob) (js : List Nat) : Ob := (pick O none js).map (tagO false)
/-- the objects behind it: each with its tag as before -/
def outO : Ob → List Nat → Ob → Ob
  | O, j :: js, q :: qs => outO (O.set j (match O[j]? with | some (some p) => tagO p.mine q | _ => q)) js qs
  | O, _, _ => O
def outA : List (Addr × List Addr) → List Nat → List (Addr × List Addr) → List (Addr × List Addr)
  | A, j :: js, x :: xs => outA (A.set j x) js xs
  | A, _, _ => A
abbrev frmOf (F H : Hp) (A : List (Addr × List Addr)) : Frm := ⟨F, H, A.map (·.1), A.map (·.2)⟩
section
variable {Φ : Frm} {F F' H H' : Hp} {σ : L2.St} {C : List Cell} {O O' : Ob} {A A' : List (Addr × List Addr)} {js : List Nat}
theorem getD_at {α : Type} {l : List α} {d : α} {j : Nat} {x : α} (h : l[j]? = some x) : l.getD j d = x := by rw [List.getD_eq_getElem?_getD, h]; rfl
/-- the callee's entry -/
theorem Ev.enter {τ : L2.St} {D : List Cell} (E : Ev Φ F H σ C O A) (hj : ∀ j ∈ js, j < O.length) (nd : js.Nodup) (hD : Cks F (pick A (0, []) js) τ D) :
    Ev (frmOf F H (pick A (0, []) js)) F H τ D (inO O js) (pick A (0, []) js) := by
  have hjA : ∀ j ∈ js, j < A.length := fun j h => by rw [E.len]; exact hj j h
  have at' : ∀ {k : Nat} {x : Addr × List Addr}, (pick A (0, []) js)[k]? = some x → ∃ j, js[k]? = some j ∧ A[j]? = some x := fun {k x} h => by
    have hk := (List.getElem?_eq_some_iff.mp h).1
    rw [pick_len] at hk
    have e : js[k]? = some js[k] := List.getElem?_eq_getElem hk
    exact ⟨js[k], e, by rw [← h, pick_get e (hjA _ (List.getElem_mem hk))]⟩
  refine ⟨hD, by simp [pick_len, inO], fun k p e => ?_, fun k e => ?_, fun k l a c f g h1 h2 ne => ?_, by show List.take (List.map _ _).length _ = _; rw [List.take_length], E.fh, Le.refl, fun b o e _ => e, fun b hb => .inl hb, fun b hb => hb, fun k p e hp => ?_⟩
  · unfold inO at e
    rw [List.getElem?_map] at e
    have hk : k < js.length := by
      rcases Nat.lt_or_ge k js.length with h | h
      · exact h
      · rw [List.getElem?_eq_none (by rw [pick_len]; exact h)] at e; cases e
    have ek : js[k]? = some js[k] := List.getElem?_eq_getElem hk
    have hjk := hj _ (List.getElem_mem hk)
    rw [pick_get ek hjk] at e
    cases q : O[js[k]]? with
    | none => rw [q] at e; cases e
    | some y =>
      rw [q] at e
      cases y with
      | none => cases e
      | some q0 =>
        cases e
        obtain ⟨a, fp, hA, J⟩ := E.ob _ _ q
        refine ⟨a, fp, by rw [pick_get ek (hjA _ (List.getElem_mem hk))]; exact hA, J.ok, J.fr, J.al, fun b hb => .inl ⟨rfl, ?_⟩⟩
        have e1 : ((pick A (0, []) js).map (·.2))[k]? = some fp := by
          rw [List.getElem?_map, pick_get ek (hjA _ (List.getElem_mem hk)), hA]; rfl
        show b ∈ ((pick A (0, []) js).map (·.2)).getD k []
        rw [getD_at e1]; exact hb
  · unfold inO at e
    rw [List.getElem?_map] at e
    have hk : k < js.length := by
      rcases Nat.lt_or_ge k js.length with h | h
      · exact h
      · rw [List.getElem?_eq_none (by rw [pick_len]; exact h)] at e; cases e
    have ek : js[k]? = some js[k] := List.getElem?_eq_getElem hk
    rw [pick_get ek (hj _ (List.getElem_mem hk))] at e
    cases q : O[js[k]]? with
    | none => rw [q] at e; cases e
    | some y =>
      rw [q] at e
      cases y with
      | some q0 => cases e
      | none =>
        obtain ⟨a, hA⟩ := E.no _ q
        exact ⟨a, by rw [pick_get ek (hjA _ (List.getElem_mem hk))]; exact hA⟩
  · obtain ⟨j1, e1, g1⟩ := at' h1
    obtain ⟨j2, e2, g2⟩ := at' h2
    refine E.dj j1 j2 a c f g g1 g2 fun z => ne ?_
    subst z
    exact (List.getElem_inj nd (h₀ := (List.getElem?_eq_some_iff.mp e1).1) (h₁ := (List.getElem?_eq_some_iff.mp e2).1)).mp ((List.getElem?_eq_some_iff.mp e1).2.trans (List.getElem?_eq_some_iff.mp e2).2.symm)
  · unfold inO at e
    rw [List.getElem?_map] at e
    cases q : (pick O none js)[k]? with
    | none => rw [q] at e; cases e
    | some y =>
      rw [q] at e
      cases y with
      | none => cases e
      | some q0 => cases e; cases hp
theorem outA_get {A' : List (Addr × List Addr)} : ∀ {js : List Nat} {A xs : List (Addr × List Addr)}, js.Nodup → xs.length = js.length → (∀ j ∈ js, j < A.length) → (∀ (k j : Nat), js[k]? = some j → (outA A js xs)[j]? = xs[k]?) ∧ ∀ i, i ∉ js → (outA A js xs)[i]? = A[i]?
  | [], A, xs, _, hl, _ => ⟨fun k j h => by simp at h, fun i _ => by rw [outA]; intro _ _ _ _ z; cases z⟩
  | j :: js, A, [], _, hl, _ => by simp at hl
  | j :: js, A, x :: xs, nd, hl, hj => by
    obtain ⟨nj, nd'⟩ := List.nodup_cons.mp nd
    obtain ⟨h1, h2⟩ := outA_get (A' := A') (js := js) (A := A.set j x) (xs := xs) nd' (by simpa using hl) (fun i hi => by rw [List.length_set]; exact hj i (List.mem_cons_of_mem _ hi))
    refine ⟨fun k i h => ?_, fun i hi => ?_⟩
    · rw [outA]
      cases k with
      | zero =>
        rw [List.getElem?_cons_zero] at h; cases h
        rw [h2 j nj, List.getElem?_set_self (hj j (List.mem_cons_self ..))]; rfl
      | succ k => rw [List.getElem?_cons_succ] at h; exact h1 k i h
    · rw [outA, h2 i (fun z => hi (List.mem_cons_of_mem _ z)), List.getElem?_set_ne (fun z => hi (by rw [← z]; exact List.mem_cons_self ..))]
theorem outA_len : ∀ {js : List Nat} {A xs : List (Addr × List Addr)}, (outA A js xs).length = A.length
  | [], A, xs => by rw [outA]; intro _ _ _ _ z; cases z
  | j :: js, A, [] => by rw [outA]; intro _ _ _ _ _ z; cases z
  | j :: js, A, x :: xs => by rw [outA, outA_len, List.length_set]
def retag (old : Option (Option OP)) (q : Option OP) : Option OP := match old with | some (some p) => tagO p.mine q | _ => q
theorem outO_get : ∀ {js : List Nat} {O qs : Ob}, js.Nodup → qs.length = js.length → (∀ j ∈ js, j < O.length) → (∀ (k j : Nat) q, js[k]? = some j → qs[k]? = some q → (outO O js qs)[j]? = some (retag O[j]? q)) ∧ ∀ i, i ∉ js → (outO O js qs)[i]? = O[i]?
  | [], O, qs, _, hl, _ => ⟨fun k j q h => by simp at h, fun i _ => by rw [outO]; intro _ _ _ _ z; cases z⟩
  | j :: js, O, [], _, hl, _ => by simp at hl
  | j :: js, O, q :: qs, nd, hl, hj => by
    obtain ⟨nj, nd'⟩ := List.nodup_cons.mp nd
    obtain ⟨h1, h2⟩ := outO_get (js := js) (O := O.set j (retag O[j]? q)) (qs := qs) nd' (by simpa using hl) (fun i hi => by rw [List.length_set]; exact hj i (List.mem_cons_of_mem _ hi))
    have e : outO O (j :: js) (q :: qs) = outO (O.set j (retag O[j]? q)) js qs := rfl
    refine ⟨fun k i r h hq => ?_, fun i hi => ?_⟩
    · rw [e]
      cases k with
      | zero =>
        rw [List.getElem?_cons_zero] at h hq; cases h; cases hq
        rw [h2 j nj, List.getElem?_set_self (hj j (List.mem_cons_self ..))]
      | succ k =>
        rw [List.getElem?_cons_succ] at h hq
        rw [h1 k i r h hq, List.getElem?_set_ne]
        intro z
        exact nj (z ▸ List.mem_of_getElem? h)
    · rw [e, h2 i (fun z => hi (List.mem_cons_of_mem _ z)), List.getElem?_set_ne (fun z => hi (by rw [← z]; exact List.mem_cons_self ..))]
theorem outO_len : ∀ {js : List Nat} {O qs : Ob}, (outO O js qs).length = O.length
  | [], O, xs => by rw [outO]; intro _ _ _ _ z; cases z
  | j :: js, O, [] => by rw [outO]; intro _ _ _ _ _ z; cases z
  | j :: js, O, x :: xs => by rw [outO, outO_len, List.length_set]
theorem retag_some {old : Option (Option OP)} {q : Option OP} {p : OP} (h : retag old q = some p) : ∃ q', q = some q' ∧ p.p = q'.p ∧ (p.mine = q'.mine ∨ ∃ p0, old = some (some p0) ∧ p.mine = p0.mine) := by
  unfold retag at h
  cases q with
  | none =>
    split at h <;> cases h
  | some q' =>
    refine ⟨q', rfl, ?_⟩
    split at h
    · rename_i p0
      cases h
      exact ⟨rfl, .inr ⟨p0, rfl, rfl⟩⟩
    · cases h; exact ⟨rfl, .inl rfl⟩
/-- the caller behind it -/
theorem Ev.leave {B : List (Addr × List Addr)} (E : Ev Φ F H σ C O A) (hj : ∀ j ∈ js, ∃ p, O[j]? = some (some p)) (nd : js.Nodup) (hl : O'.length = js.length)
    (E' : Ev (frmOf F H (pick A (0, []) js)) F' H' [] [] O' B) : Ev Φ F' H' σ C (outO O js O') (outA A js B) := by
  have hjO : ∀ j ∈ js, j < O.length := fun j h => let ⟨p, hp⟩ := hj j h; (List.getElem?_eq_some_iff.mp hp).1
  have hjA : ∀ j ∈ js, j < A.length := fun j h => by rw [E.len]; exact hjO j h
  have hB : B.length = js.length := E'.len.trans hl
  obtain ⟨gA1, gA2⟩ := outA_get (A' := A) nd hB hjA
  obtain ⟨gO1, gO2⟩ := outO_get nd hl hjO
  have addr : ∀ (k j : Nat) (a : Addr) (f : List Addr), js[k]? = some j → A[j]? = some (a, f) → ∃ g, B[k]? = some (a, g) := fun k j a f h1 h2 => by
    have hp := E'.pre
    have hk := (List.getElem?_eq_some_iff.mp h1).1
    have e1 : ((pick A (0, []) js).map (·.1))[k]? = some a := by
      rw [List.getElem?_map, pick_get h1 (hjA j (List.mem_of_getElem? h1)), h2]; rfl
    have e2 : (B.map (·.1))[k]? = some a := by
      rw [← e1]
      show _ = (frmOf F H (pick A (0, []) js)).as[k]?
      rw [← hp]
      rw [List.getElem?_take_of_lt (by show k < ((pick A (0, []) js).map (·.1)).length; rw [List.length_map, pick_len]; exact hk)]
    rw [List.getElem?_map] at e2
    cases e3 : B[k]? with
    | none => rw [e3] at e2; cases e2
    | some x => rw [e3] at e2; cases e2; exact ⟨x.2, rfl⟩
  -- what is at a place of the new footprints
  have inK : ∀ (k : Nat) b, b ∈ (frmOf F H (pick A (0, []) js)).M.getD k [] → ∃ (j : Nat) (a : Addr) (f : List Addr), js[k]? = some j ∧ A[j]? = some (a, f) ∧ b ∈ f := fun k b hb => by
    have hb : b ∈ ((pick A (0, []) js).map (·.2)).getD k [] := hb
    rcases Nat.lt_or_ge k js.length with hk | hk
    · have ek : js[k]? = some js[k] := List.getElem?_eq_getElem hk
      have hm := List.getElem_mem hk
      have eA : A[js[k]]? = some (A[js[k]]'(hjA _ hm)) := List.getElem?_eq_getElem (hjA _ hm)
      refine ⟨js[k], (A[js[k]]'(hjA _ hm)).1, (A[js[k]]'(hjA _ hm)).2, ek, eA, ?_⟩
      have e1 : ((pick A (0, []) js).map (·.2))[k]? = some (A[js[k]]'(hjA _ hm)).2 := by
        rw [List.getElem?_map, pick_get ek (hjA _ hm), eA]; rfl
      rw [getD_at e1] at hb; exact hb
    · rw [List.getD_eq_getElem?_getD, List.getElem?_eq_none (by rw [List.length_map, pick_len]; exact hk)] at hb
      exact absurd hb List.not_mem_nil
  have inM : ∀ b, b ∈ (frmOf F H (pick A (0, []) js)).M.flatten → ∃ (j : Nat) (a : Addr) (f : List Addr), j ∈ js ∧ A[j]? = some (a, f) ∧ b ∈ f := fun b hb => by
    obtain ⟨f, hf, hbf⟩ := List.mem_flatten.mp hb
    obtain ⟨k, hk, e⟩ := List.getElem_of_mem hf
    obtain ⟨j, a, g, h1, h2, h3⟩ := inK k b (by rw [getD_at (List.getElem?_eq_getElem hk), e]; exact hbf)
    exact ⟨j, a, g, List.mem_of_getElem? h1, h2, h3⟩
  have newB : ∀ {k : Nat} {a : Addr} {g : List Addr}, B[k]? = some (a, g) → ∀ b ∈ g, (∃ (j : Nat) (a : Addr) (f : List Addr), js[k]? = some j ∧ A[j]? = some (a, f) ∧ b ∈ f) ∨ H b = none := fun {k a g} h b hb => (E'.mA h b hb).imp (inK k b) id
  have notM : ∀ {i : Nat} {c : Addr} {g : List Addr}, i ∉ js → A[i]? = some (c, g) → ∀ b ∈ g, b ∉ (frmOf F H (pick A (0, []) js)).M.flatten ∧ H b ≠ none ∧ F b = none := fun {i c g} hi h b hb => by
    refine ⟨fun hm => ?_, (E.alA h b hb).1, (E.alA h b hb).2⟩
    obtain ⟨j, a, f, h1, h2, h3⟩ := inM b hm
    exact E.dj i j c a g f h h2 (fun z => hi (z ▸ h1)) b hb h3
  have keepO : ∀ {i : Nat} {c : Addr} {g : List Addr}, i ∉ js → A[i]? = some (c, g) → ∀ b ∈ g, H' b = H b ∧ F' b = none := fun {i c g} hi h b hb => by
    obtain ⟨h1, h2, h3⟩ := notM hi h b hb
    obtain ⟨o, ho⟩ := Option.ne_none_iff_exists'.mp h2
    refine ⟨(E'.kp b o ho h1).trans ho.symm, ?_⟩
    cases e : F' b with
    | none => rfl
    | some u =>
      rcases E'.nw b (by rw [e]; exact Option.some_ne_none _) with z | z
      · exact absurd h3 z
      · exact absurd z h2
  have split : ∀ {i : Nat} {c : Addr} {g : List Addr}, (outA A js B)[i]? = some (c, g) → (i ∉ js ∧ A[i]? = some (c, g)) ∨ ∃ k, js[k]? = some i ∧ B[k]? = some (c, g) := fun {i c g} h => by
    by_cases hi : i ∈ js
    · obtain ⟨k, hk, e⟩ := List.getElem_of_mem hi
      have ek : js[k]? = some i := by rw [List.getElem?_eq_getElem hk, e]
      rw [gA1 k i ek] at h
      exact .inr ⟨k, ek, h⟩
    · rw [gA2 i hi] at h; exact .inl ⟨hi, h⟩
  refine ⟨(E.ck.mono E'.ff).imp fun i a fp h => ?_, by rw [outA_len, outO_len, E.len], fun i p h => ?_, fun i h => ?_, fun i l a c f g h1 h2 ne b hb hb' => ?_, ?_, E'.fh, E.ff.trans E'.ff, fun b o h hm => ?_, fun b hb => ?_, fun b hb => E'.dm b (E.dm b hb), fun i p h hp => ?_⟩
  · by_cases hi : i ∈ js
    · obtain ⟨k, hk, e⟩ := List.getElem_of_mem hi
      have ek : js[k]? = some i := by rw [List.getElem?_eq_getElem hk, e]
      obtain ⟨g, hg⟩ := addr k i a fp ek h
      exact ⟨g, by rw [gA1 k i ek]; exact hg⟩
    · exact ⟨fp, by rw [gA2 i hi]; exact h⟩
  · by_cases hi : i ∈ js
    · obtain ⟨k, hk, e⟩ := List.getElem_of_mem hi
      have ek : js[k]? = some i := by rw [List.getElem?_eq_getElem hk, e]
      obtain ⟨p0, hp0⟩ := hj i hi
      have hq : O'[k]? = some O'[k] := List.getElem?_eq_getElem (by omega)
      rw [gO1 k i _ ek hq] at h
      have h' : retag O[i]? O'[k] = some p := Option.some.inj h
      obtain ⟨q', hq', hpp, hmm⟩ := retag_some h'
      obtain ⟨a, fp, hBk, J⟩ := E'.ob k q' (by rw [hq, hq'])
      obtain ⟨a0, f0, hA0, J0⟩ := E.ob i p0 hp0
      obtain ⟨g, hg⟩ := addr k i a0 f0 ek hA0
      rw [hBk] at hg; cases hg
      refine ⟨a, fp, by rw [gA1 k i ek]; exact hBk, by rw [hpp]; exact J.ok, J.fr, J.al, fun b hb => ?_⟩
      have hmine : p.mine = p0.mine := by
        rcases hmm with z | ⟨p1, z1, z2⟩
        · unfold retag at h'
          rw [hp0, hq'] at h'
          cases h'; rfl
        · rw [hp0] at z1; cases z1; exact z2
      rcases newB hBk b hb with ⟨j, a1, f1, hj1, hA1, hb1⟩ | hn
      · rw [ek] at hj1; cases hj1
        rw [hA0] at hA1; cases hA1
        rw [hmine]; exact J0.m b hb1
      · exact .inr (E.fresh0 hn)
    · rw [gO2 i hi] at h
      obtain ⟨a, fp, hA, J⟩ := E.ob i p h
      exact ⟨a, fp, by rw [gA2 i hi]; exact hA, J.mono E'.ff (fun b hb => (keepO hi hA b hb).2) fun b hb => (keepO hi hA b hb).1⟩
  · by_cases hi : i ∈ js
    · obtain ⟨k, hk, e⟩ := List.getElem_of_mem hi
      have ek : js[k]? = some i := by rw [List.getElem?_eq_getElem hk, e]
      have hq : O'[k]? = some O'[k] := List.getElem?_eq_getElem (by omega)
      rw [gO1 k i _ ek hq] at h
      have h' : retag O[i]? O'[k] = none := Option.some.inj h
      have hn : O'[k] = none := by
        unfold retag at h'
        split at h'
        · exact Option.map_eq_none_iff.mp h'
        · exact h'
      obtain ⟨a, hBk⟩ := E'.no k (by rw [hq, hn])
      exact ⟨a, by rw [gA1 k i ek]; exact hBk⟩
    · rw [gO2 i hi] at h
      obtain ⟨a, hA⟩ := E.no i h
      exact ⟨a, by rw [gA2 i hi]; exact hA⟩
  · rcases split h1 with ⟨n1, g1⟩ | ⟨k1, e1, g1⟩
    · rcases split h2 with ⟨n2, g2⟩ | ⟨k2, e2, g2⟩
      · exact E.dj i l a c f g g1 g2 ne b hb hb'
      · rcases newB g2 b hb' with ⟨j, a1, f1, hj1, hA1, hb1⟩ | hn
        · exact E.dj i j a a1 f f1 g1 hA1 (fun z => n1 (z ▸ List.mem_of_getElem? hj1)) b hb hb1
        · exact (E.alA g1 b hb).1 hn
    · rcases split h2 with ⟨n2, g2⟩ | ⟨k2, e2, g2⟩
      · rcases newB g1 b hb with ⟨j, a1, f1, hj1, hA1, hb1⟩ | hn
        · exact E.dj l j c a1 g f1 g2 hA1 (fun z => n2 (z ▸ List.mem_of_getElem? hj1)) b hb' hb1
        · exact (E.alA g2 b hb').1 hn
      · refine E'.dj k1 k2 a c f g g1 g2 (fun z => ne ?_) b hb hb'
        subst z
        rw [e1] at e2; exact Option.some.inj e2
  · have e : (outA A js B).map (·.1) = A.map (·.1) := by
      refine List.ext_getElem? fun n => ?_
      rw [List.getElem?_map, List.getElem?_map]
      by_cases hi : n ∈ js
      · obtain ⟨k, hk, e⟩ := List.getElem_of_mem hi
        have ek : js[k]? = some n := by rw [List.getElem?_eq_getElem hk, e]
        have hn := hjA n hi
        obtain ⟨x, hA⟩ : ∃ x, A[n]? = some x := ⟨A[n], List.getElem?_eq_getElem hn⟩
        obtain ⟨g, hg⟩ := addr k n x.1 x.2 ek hA
        rw [gA1 k n ek, hg, hA]; rfl
      · rw [gA2 n hi]
    rw [e]; exact E.pre
  · have h1 := E.kp b o h hm
    refine E'.kp b o h1 fun hM => ?_
    obtain ⟨j, a, f, hj1, hA1, hb1⟩ := inM b hM
    rcases E.mA hA1 b hb1 with z | z
    · exact hm (mem_M z)
    · rw [z] at h; cases h
  · rcases E'.nw b hb with z | z
    · exact E.nw b z
    · exact .inr (E.fresh0 z)
  · by_cases hi : i ∈ js
    · obtain ⟨k, hk, e⟩ := List.getElem_of_mem hi
      have ek : js[k]? = some i := by rw [List.getElem?_eq_getElem hk, e]
      obtain ⟨p0, hp0⟩ := hj i hi
      have hq : O'[k]? = some O'[k] := List.getElem?_eq_getElem (by omega)
      rw [gO1 k i _ ek hq] at h
      have h' : retag O[i]? O'[k] = some p := Option.some.inj h
      unfold retag at h'
      rw [hp0] at h'
      cases e2 : O'[k] with
      | none => rw [e2] at h'; cases h'
      | some q2 => rw [e2] at h'; cases h'; exact E.pm i p0 hp0 hp
    · rw [gO2 i hi] at h; exact E.pm i p h hp
end
section
variable {Φ : Frm} {F F' H H' : Hp} {σ : L2.St} {C : List Cell} {O O' : Ob} {A A' : List (Addr × List Addr)} {js : List Nat}
/-- one more object -/
theorem Ev.add {q : OP} {a : Addr} {fp : List Addr} (E : Ev Φ F H σ C O A) (h1 : q.p F H a fp) (h2 : ∀ b ∈ fp, F b = none ∧ H b ≠ none ∧ Φ.H0 b = none) (h3 : ∀ (i : Nat) c g, A[i]? = some (c, g) → ∀ b ∈ fp, b ∉ g) : Ev Φ F H σ C (O ++ [some q]) (A ++ [(a, fp)]) := by
  have lt : ∀ {j x}, A[j]? = some x → j < A.length := fun h => (List.getElem?_eq_some_iff.mp h).1
  have getA : ∀ {j x}, A[j]? = some x → (A ++ [(a, fp)])[j]? = some x := fun h => by rw [List.getElem?_append_left (lt h)]; exact h
  have gl : ∀ {j x}, (A ++ [(a, fp)])[j]? = some x → A[j]? = some x ∨ (j = A.length ∧ x = (a, fp)) := fun {j x} h => by
    by_cases hj : j < A.length
    · rw [List.getElem?_append_left hj] at h; exact .inl h
    · have h' := (List.getElem?_eq_some_iff.mp h).1
      rw [List.length_append, List.length_singleton] at h'
      have e : j = A.length := by omega
      subst e
      rw [List.getElem?_append_right (Nat.le_refl _), Nat.sub_self] at h
      exact .inr ⟨rfl, (Option.some.inj h).symm⟩
  refine ⟨E.ck.imp fun j a fp h => ⟨fp, getA h⟩, by simp [E.len], fun j q' e => ?_, fun j e => ?_, fun i j c d f g e1 e2 ne b hb hb' => ?_, ?_, E.fh, E.ff, E.kp, E.nw, E.dm, pm_app E⟩
  · by_cases hj : j < O.length
    · rw [List.getElem?_append_left hj] at e
      obtain ⟨c, g, h, k⟩ := E.ob j q' e
      exact ⟨c, g, getA h, k⟩
    · have hl := (List.getElem?_eq_some_iff.mp e).1
      rw [List.length_append, List.length_singleton] at hl
      have e' : j = O.length := by omega
      subst e'
      rw [List.getElem?_append_right (Nat.le_refl _), Nat.sub_self] at e
      cases e
      exact ⟨a, fp, by rw [← E.len, List.getElem?_append_right (Nat.le_refl _), Nat.sub_self]; rfl, h1, fun b hb => (h2 b hb).1, fun b hb => (h2 b hb).2.1, fun b hb => .inr (h2 b hb).2.2⟩
  · by_cases hj : j < O.length
    · rw [List.getElem?_append_left hj] at e
      obtain ⟨c, h⟩ := E.no j e
      exact ⟨c, getA h⟩
    · have hl := (List.getElem?_eq_some_iff.mp e).1
      rw [List.length_append, List.length_singleton] at hl
      have e' : j = O.length := by omega
      subst e'
      rw [List.getElem?_append_right (Nat.le_refl _), Nat.sub_self] at e
      cases e
  · rcases gl e1 with e1 | ⟨rfl, x1⟩
    · rcases gl e2 with e2 | ⟨rfl, x2⟩
      · exact E.dj i j c d f g e1 e2 ne b hb hb'
      · cases x2; exact h3 i c f e1 b hb' hb
    · rcases gl e2 with e2 | ⟨rfl, x2⟩
      · cases x1; exact h3 j d g e2 b hb hb'
      · exact ne rfl
  · have hl : Φ.as.length ≤ (A.map (·.1)).length := by rw [List.length_map, E.len]; exact E.asl
    rw [List.map_append, List.take_append_of_le_length hl]
    exact E.pre
/-- the caller behind a call that gave an object -/
theorem Ev.leaveO {B : List (Addr × List Addr)} {q : OP} {a : Addr} {fp : List Addr} (E : Ev Φ F H σ C O A) (hj : ∀ j ∈ js, ∃ p, O[j]? = some (some p)) (nd : js.Nodup) (hl : O'.length = js.length)
    (E' : Ev (frmOf F H (pick A (0, []) js)) F' H' [] [] (O' ++ [some q]) B) (hB : B[O'.length]? = some (a, fp)) : Ev Φ F' H' σ C (outO O js O' ++ [some q]) (outA A js (B.take js.length) ++ [(a, fp)]) := by
  have hasl : (frmOf F H (pick A (0, []) js)).as.length = js.length := by show (List.map _ _).length = _; rw [List.length_map, pick_len]
  have E1 := E'.trunc (n := js.length) rfl (Nat.le_of_eq hasl)
  have e : (O' ++ [some q]).take js.length = O' := by rw [← hl]; simp
  rw [e] at E1
  have E2 := E.leave hj nd hl E1
  obtain ⟨a', fp', hB', J⟩ := E'.ob O'.length q (by simp)
  rw [hB] at hB'; cases hB'
  have hjO : ∀ j ∈ js, j < O.length := fun j h => let ⟨p, hp⟩ := hj j h; (List.getElem?_eq_some_iff.mp hp).1
  have hBl : (B.take js.length).length = js.length := E1.len.trans hl
  obtain ⟨gA1, gA2⟩ := outA_get (A' := A) nd hBl (fun j h => by rw [E.len]; exact hjO j h)
  have fresh : ∀ b ∈ fp, H b = none := fun b hb => by
    rcases J.m b hb with ⟨_, z⟩ | z
    · have z : b ∈ ((pick A (0, []) js).map (·.2)).getD O'.length [] := z
      rw [List.getD_eq_getElem?_getD, List.getElem?_eq_none (by rw [List.length_map, pick_len]; omega)] at z
      exact absurd z List.not_mem_nil
    · exact z
  refine E2.add J.ok (fun b hb => ⟨J.fr b hb, J.al b hb, E.fresh0 (fresh b hb)⟩) fun i c g h b hb hb' => ?_
  by_cases hi : i ∈ js
  · obtain ⟨k, hk, e⟩ := List.getElem_of_mem hi
    have ek : js[k]? = some i := by rw [List.getElem?_eq_getElem hk, e]
    rw [gA1 k i ek, List.getElem?_take_of_lt hk] at h
    exact E'.dj k O'.length c a g fp h hB (by omega) b hb' hb
  · rw [gA2 i hi] at h
    exact (E.alA h b hb').1 (fresh b hb)
end
/-! promises -/
/-- the end that is promised: a value, an object, an exception; with the objects handed over as they then are -/
inductive Ret where
  | v (p : VP) (O : Ob)
  | o (q : OP) (O : Ob)
  | x (e : Er) (O : Ob)
/-- called with what the cells D and the objects O say, it ends as r says -/
def spS (D : List Cell) (O : Ob) (r : Ret) (vs : List V) (H : Hp) (Q : VK) (E : XK) : Prop := ∃ F A, Ev (frmOf F H A) F H (vs.map some) D O A ∧ match r with
  | .v p O' => ∀ F' H' v A', Ev (frmOf F H A) F' H' [] [] O' A' → p.p F' v → Q v H'
  | .o q O' => ∀ F' H' v A' a fp, Ev (frmOf F H A) F' H' [] [] (O' ++ [some q]) A' → v = .ref a → A'[O'.length]? = some (a, fp) → Q v H'
  | .x e O' => ∀ F' H' A' d, Ev (frmOf F H A) F' H' [] [] O' A' → e.pl F' H' d → E (.ref e.cls) d H'
/-- a def by its cases -/
def spM {ι : Type} (P : ι → Prop) (D : ι → List Cell) (O : ι → Ob) (r : ι → Ret) : Sp := fun vs H Q E => ∃ i, P i ∧ spS (D i) (O i) (r i) vs H Q E
/-- the arguments as the callee's cells -/
inductive AD (C : List Cell) (js : List Nat) : List AC → List Cell → Prop
  | nil : AD C js [] []
  | v {p : VP} {as : List AC} {D : List Cell} (t : AD C js as D) : AD C js (.v p :: as) (.v p :: D)
  | o {i k j : Nat} {as : List AC} {D : List Cell} (hC : C[i]? = some (.o j)) (hk : js[k]? = some j) (t : AD C js as D) : AD C js (.o i :: as) (.o k :: D)
theorem AD.cks {Φ : Frm} {F H : Hp} {σ : L2.St} {C : List Cell} {O : Ob} {A : List (Addr × List Addr)} {js : List Nat} {as : List AC} {D : List Cell} {vs : List V} (E : Ev Φ F H σ C O A) (h : AD C js as D) (hv : Aa F σ vs as) : Cks F (pick A (0, []) js) (vs.map some) D := by
  induction h generalizing vs with
  | nil => cases hv; exact .nil
  | v t ih => cases hv with | v h t' => exact .cons ⟨_, rfl, h⟩ (ih t')
  | @o i k j as D hC hk t ih =>
    cases hv with
    | o h t' =>
      refine .cons ?_ (ih t')
      obtain ⟨x, e, a, fp, rfl, hA⟩ := E.ck.get hC
      rw [h] at e; cases e
      exact ⟨a, fp, rfl, by rw [pick_get hk (List.getElem?_eq_some_iff.mp hA).1]; exact hA⟩
section
variable {X : Cx} {W : WX} {C : List Cell} {O O1 O2 : Ob} {p : VP} {q : OP} {e : Expr} {es : List Expr} {pos p1 : Pos} {x : Str} {k : Nat} {f : Addr} {fd : FuncData} {pn : List Str} {js : List Nat} {as : List AC} {D : List Cell}
theorem call_o {Φ : Frm} {F H : Hp} {σ : L2.St} {A : List (Addr × List Addr)} {vs : List V} {Q : VK} {E0 : XK} {O' : Ob} (E : Ev Φ F H σ C O1 A) (hj : ∀ j ∈ js, ∃ p, O1[j]? = some (some p)) (nd : js.Nodup) (ad : AD C js as D) (hv : Aa F σ vs as) (hl : O'.length = js.length)
    (k : ∀ F' H' v A' a fp, Le F F' → Ev Φ F' H' σ C (outO O1 js O' ++ [some q]) A' → Φ.as.length ≤ (outO O1 js O').length → v = .ref a → A'[(outO O1 js O').length]? = some (a, fp) → Q v H') : spS D (inO O1 js) (.o q O') vs H Q E0 :=
  ⟨F, pick A (0, []) js, E.enter (fun j h => let ⟨p, hp⟩ := hj j h; (List.getElem?_eq_some_iff.mp hp).1) nd (ad.cks E hv), fun F' H' v B a fp E' ev hB =>
    k F' H' v _ a fp E'.ff (E.leaveO hj nd hl E' hB) (by rw [outO_len]; exact E.asl) ev (by rw [outO_len, ← E.len, ← outA_len (js := js) (xs := B.take js.length) (A := A)]; simp)⟩
/-- the callee's promise out of the caller's state -/
theorem call_v {Φ : Frm} {F H : Hp} {σ : L2.St} {A : List (Addr × List Addr)} {vs : List V} {Q : VK} {E0 : XK} {O' : Ob} (E : Ev Φ F H σ C O1 A) (hj : ∀ j ∈ js, ∃ p, O1[j]? = some (some p)) (nd : js.Nodup) (ad : AD C js as D) (hv : Aa F σ vs as) (hl : O'.length = js.length)
    (k : ∀ F' H' v A', Le F F' → Ev Φ F' H' σ C (outO O1 js O') A' → p.p F' v → Q v H') : spS D (inO O1 js) (.v p O') vs H Q E0 :=
  ⟨F, pick A (0, []) js, E.enter (fun j h => let ⟨p, hp⟩ := hj j h; (List.getElem?_eq_some_iff.mp hp).1) nd (ad.cks E hv), fun F' H' v B E' hp => k F' H' v _ E'.ff (E.leave hj nd hl E') hp⟩
theorem call_x {Φ : Frm} {F H : Hp} {σ : L2.St} {A : List (Addr × List Addr)} {vs : List V} {Q : VK} {E0 : XK} {O' : Ob} {er : Er} (E : Ev Φ F H σ C O1 A) (hj : ∀ j ∈ js, ∃ p, O1[j]? = some (some p)) (nd : js.Nodup) (ad : AD C js as D) (hv : Aa F σ vs as) (hl : O'.length = js.length)
    (k : ∀ F' H' A' d, Le F F' → Ev Φ F' H' σ C (outO O1 js O') A' → er.pl F' H' d → E0 (.ref er.cls) d H') : spS D (inO O1 js) (.x er O') vs H Q E0 :=
  ⟨F, pick A (0, []) js, E.enter (fun j h => let ⟨p, hp⟩ := hj j h; (List.getElem?_eq_some_iff.mp hp).1) nd (ad.cks E hv), fun F' H' B d E' hp => k F' H' _ d E'.ff (E.leave hj nd hl E') hp⟩
end
end SIM

end
section
namespace SIM
open PySem L2 PyProof.Rows
/-- how a body's end keeps a promise about the first m objects -/
inductive Fin (m : Nat) : Out → Ret → Prop
  | nx {C : List Cell} {O : Ob} : Fin m (.nx C O) (.v (eqP .non) (O.take m))
  | rt {p : VP} {O : Ob} (h : O.length = m) : Fin m (.rt p O) (.v p O)
  | ro {q : OP} {O : Ob} (h : O.length = m) (hq : q.mine = true) : Fin m (.ro q O) (.o q O)
  | ro' {q : OP} {O : Ob} (h : O.length = m) : Fin m (.ro q O) (.o q O)
  | ex {e : Er} {C : List Cell} {O : Ob} (h : O.length = m) : Fin m (.ex e C O) (.x e O)
section
variable {Φ : Frm} {F F' H H' : Hp} {σ : L2.St} {C D : List Cell} {O O' : Ob} {A A' : List (Addr × List Addr)}
theorem Cks.more (n : Nat) (h : Cks F A σ D) : Cks F A (σ ++ List.replicate n none) (D ++ List.replicate n .u) := by
  induction h with
  | nil =>
    induction n with
    | zero => exact .nil
    | succ n ih => exact .cons trivial ih
  | cons h _ ih => exact .cons h ih
theorem Ev.start {vs : List V} {N : List Str} (E : Ev Φ F H (vs.map some) D O A) : Ev Φ F H (L2.start N vs) (D ++ List.replicate (N.length - vs.length) .u) O A :=
  ⟨E.ck.more _, E.len, E.ob, E.no, E.dj, E.pre, E.fh, E.ff, E.kp, E.nw, E.dm, E.pm⟩
theorem Ev.toLast {m : Nat} {q : OP} {a : Addr} {fp : List Addr} (E : Ev Φ F H [] [] (O ++ [some q]) A) (hA : A[O.length]? = some (a, fp)) (hm : m ≤ O.length) (hl : Φ.as.length ≤ m) (hq : ∀ b ∈ fp, Φ.H0 b = none) : Ev Φ F H [] [] (O.take m ++ [some q]) (A.take m ++ [(a, fp)]) := by
  have E1 := E.trunc (n := m) rfl hl
  rw [List.take_append_of_le_length hm] at E1
  obtain ⟨a', fp', hA', J⟩ := E.ob O.length q (by simp)
  rw [hA] at hA'; cases hA'
  refine E1.add J.ok (fun b hb => ⟨J.fr b hb, J.al b hb, hq b hb⟩) fun i c g h b hb hb' => ?_
  have hi := (List.getElem?_eq_some_iff.mp h).1
  rw [List.length_take] at hi
  rw [List.getElem?_take_of_lt (by omega)] at h
  exact E.dj i O.length c a g fp h hA (by omega) b hb' hb
end
/-- a body that keeps a promise -/
theorem spS_body {P : Program} {w : World} {K : PySem.W.Frag} {mg : Str → Option Value} {base : Heap} {N : List Str} {qual : Str} {scope : Scope} {f : Addr} {cdv : Value} {A : Around} {outer : List Env} {s : Shared} {H : Hp} {vs : List V} {Q : VK} {E : XK} {D : List Cell} {O : Ob} {r : Ret} {body : List Stmt} {o : Out} {C : List Cell}
    (h : spS D O r vs H Q E) (hC : C = D ++ List.replicate (N.length - vs.length) .u) (hf : Fin O.length o r)
    (hb : SB (cxOf (L2.CX P w) P w K mg base N qual scope f cdv A outer s H E) (fun cls d _ H => E cls d H) body C O o) :
    ∃ t, PSs (cxOf (L2.CX P w) P w K mg base N qual scope f cdv A outer s H E) body t ∧ t { nx := fun _ H' => Q .non H', rt := Q } (start N vs) H := by
  obtain ⟨F, B, Ev0, hr⟩ := h
  have hm : (frmOf F H B).as.length = O.length := by show (List.map _ _).length = _; rw [List.length_map, Ev0.len]
  have fr : ∀ {F' H' : Hp} {v : V} {A' : List (Addr × List Addr)} {a : Addr} {fp : List Addr} {O' O2 : Ob} {q : OP}, O'.length = O.length → Ev (frmOf F H B) F' H' [] [] (O' ++ O2 ++ [some q]) A' → A'[(O' ++ O2).length]? = some (a, fp) → ∃ A2, Ev (frmOf F H B) F' H' [] [] (O' ++ [some q]) A2 ∧ A2[O'.length]? = some (a, fp) := fun {F' H' v A' a fp O' O2 q} hl E' hA => by
    have hq : ∀ b ∈ fp, (frmOf F H B).H0 b = none := fun b hb' => by
      obtain ⟨a', fp', hA', J⟩ := E'.ob (O' ++ O2).length q (by simp)
      rw [hA] at hA'; cases hA'
      rcases J.m b hb' with ⟨z1, z2⟩ | z
      · exfalso
        have z2 : b ∈ (B.map (·.2)).getD (O' ++ O2).length [] := z2
        rw [List.getD_eq_getElem?_getD, List.getElem?_eq_none (by rw [List.length_map, Ev0.len, List.length_append]; omega)] at z2
        exact absurd z2 List.not_mem_nil
      · exact z
    have E2 := E'.toLast hA (m := O.length) (by rw [List.length_append]; omega) (Nat.le_of_eq hm) hq
    have e1 : (O' ++ O2).take O.length = O' := by rw [← hl]; simp
    rw [e1] at E2
    refine ⟨_, E2, ?_⟩
    have e2 := E'.len
    rw [List.length_append, List.length_append, List.length_singleton] at e2
    have e3 : (A'.take O.length).length = O'.length := by rw [List.length_take]; omega
    rw [← e3]; simp
  refine ⟨_, hb, frmOf F H B, F, B, hC ▸ Ev0.start, ?_⟩
  cases hf with
  | nx => exact fun F' H' σ' A' l E' => hr F' H' .non _ (E'.bare.trunc rfl (Nat.le_of_eq hm)) rfl
  | @rt p O' hl =>
    intro F' H' v A' O2 l E' hp
    have E2 := E'.trunc (n := O.length) rfl (Nat.le_of_eq hm)
    rw [show (O' ++ O2).take O.length = O' by rw [← hl]; simp] at E2
    exact hr F' H' v _ E2 hp
  | @ro q O' hl hq =>
    intro F' H' v A' a fp O2 l E' _ ev hA
    obtain ⟨A2, E2, h2⟩ := fr (v := v) hl E' hA
    exact hr F' H' v _ a fp E2 ev h2
  | @ro' q O' hl =>
    intro F' H' v A' a fp O2 l E' _ ev hA
    obtain ⟨A2, E2, h2⟩ := fr (v := v) hl E' hA
    exact hr F' H' v _ a fp E2 ev h2
  | @ex e C O' hl =>
    intro F' H' σ' A' d O2 l E' hp
    have E2 := E'.bare.trunc (n := O.length) rfl (Nat.le_of_eq hm)
    rw [show (O' ++ O2).take O.length = O' by rw [← hl]; simp] at E2
    exact hr F' H' _ d E2 hp
/-- a def of the text keeps its promise -/
theorem okM {P : Program} {w : World} {K : PySem.W.Frag} {mg : Str → Option Value} {base : Heap} {x qual : Str} {st : Stmt} {f : Addr} {fd : FuncData} {N ps : List Str} {k : Nat} {ι : Type} {Pi : ι → Prop} {D : ι → List Cell} {O : ι → Ob} {r : ι → Ret} (F : Fun K x qual st f fd) (S : FnScope N ps (defScope st)) (hl : ∀ i, (D i).length = ps.length)
    (hb : ∀ i, Pi i → ∀ (cdv : Value) (A : Around) (outer : List Env) (s : Shared) (H : Hp) (E : XK), Room k (A.deeper (envOfC qual (defScope st) s.heap.objs.size f cdv)) →
      ∃ o, Fin (O i).length o (r i) ∧ SB (cxOf (L2.CX P w) P w K mg base N qual (defScope st) f cdv A outer s H E) (fun cls d _ H => E cls d H) (defBody st) (D i ++ List.replicate (N.length - ps.length) .u) (O i) o) : FnOk P w K mg base (L2.CX P w) (k + 1) f fd ps (spM Pi D O r) := by
  have len : ∀ vs H Q E, spM Pi D O r vs H Q E → vs.length = ps.length := fun vs H Q E ⟨i, _, F, B, Ev0, _⟩ => by
    have := Ev0.ck.len
    rw [List.length_map, hl] at this; exact this
  refine F.okX S len (fun cdv A outer s H vs Q E hr h => ?_)
  have hv := len _ _ _ _ h
  obtain ⟨i, hi, hs⟩ := h
  obtain ⟨o, hf, hbd⟩ := hb i hi cdv A outer s H E hr
  exact spS_body hs (by rw [hv]) hf hbd
section
variable {X : Cx} {W : WX} {C : List Cell} {O O1 O2 O' : Ob} {p : VP} {q : OP} {e : Expr} {es : List Expr} {pos p1 : Pos} {x : Str} {k : Nat} {f : Addr} {fd : FuncData} {pn : List Str} {js : List Nat} {as : List AC} {D : List Cell}
theorem hjs {O1 : Ob} {js : List Nat} (h : js.all (fun j => match O1[j]? with | some (some _) => true | _ => false) = true) : ∀ j ∈ js, ∃ p, O1[j]? = some (some p) := fun j hj => by
  have h1 := List.all_eq_true.mp h j hj
  cases e : O1[j]? with
  | none => rw [e] at h1; cases h1
  | some y => cases y with
    | none => rw [e] at h1; cases h1
    | some p => exact ⟨p, rfl⟩
/-- a call of a def that keeps a promise: a value, an object -/
theorem se_call {ι : Type} {P : ι → Prop} {D0 : ι → List Cell} {O0 : ι → Ob} {r : ι → Ret} (F : FnOk X.prog X.w X.K X.mg X.base (L2.CX X.prog X.w) k f fd pn (spM P D0 O0 r)) (hr : Room k X.A) (hm : X.mg x = some (.ref f)) (hk : PySem.W.keepIn X.K (.ref f) = true) (hb : Binds X.K fd pn [])
    (i : ι) (hi : P i) (args : SA X (e :: es) C O O1 as) (ad : AD C js as (D0 i)) (hO : O0 i = inO O1 js) (hR : r i = .v p O') (nd : js.Nodup := by decide) (hl : O'.length = js.length := by rfl) (hj : ∀ j ∈ js, ∃ p, O1[j]? = some (some p) := by exact hjs rfl)
    (hg : Gl X x := by rfl) (hdb : (x == ("__debug__" : Str)) = false := by decide) (he : starEach (e :: es) X.env = (false, eval e X.env) :: starEach es X.env := by rfl) (hpl : (backTo pos (starEach es X.env)).any (·.1) = false := by rfl) :
    SE X (.Call (.Name x p1) (e :: es) [] pos) C O (outO O1 js O') p :=
  imp (pe_call F hr hg hm hk hb .nil passL args hdb he hpl) fun σ H Q ⟨Φ, F, A, E, w⟩ => ⟨Φ, F, A, E, fun F1 H1 vs A1 l1 E1 hv => ⟨i, hi, by
    rw [List.append_nil, hO, hR]
    exact call_v E1 hj nd ad hv hl fun F' H' v A' l E' hp => w F' H' v A' (l1.trans l) E' hp⟩⟩
theorem so_call {ι : Type} {P : ι → Prop} {D0 : ι → List Cell} {O0 : ι → Ob} {r : ι → Ret} (F : FnOk X.prog X.w X.K X.mg X.base (L2.CX X.prog X.w) k f fd pn (spM P D0 O0 r)) (hr : Room k X.A) (hm : X.mg x = some (.ref f)) (hk : PySem.W.keepIn X.K (.ref f) = true) (hb : Binds X.K fd pn [])
    (i : ι) (hi : P i) (args : SA X (e :: es) C O O1 as) (ad : AD C js as (D0 i)) (hO : O0 i = inO O1 js) (hR : r i = .o q O') (nd : js.Nodup := by decide) (hl : O'.length = js.length := by rfl) (hj : ∀ j ∈ js, ∃ p, O1[j]? = some (some p) := by exact hjs rfl)
    (hg : Gl X x := by rfl) (hdb : (x == ("__debug__" : Str)) = false := by decide) (he : starEach (e :: es) X.env = (false, eval e X.env) :: starEach es X.env := by rfl) (hpl : (backTo pos (starEach es X.env)).any (·.1) = false := by rfl) :
    SO X (.Call (.Name x p1) (e :: es) [] pos) C O (outO O1 js O') q :=
  imp (pe_call F hr hg hm hk hb .nil passL args hdb he hpl) fun σ H Q ⟨Φ, F, A, E, w⟩ => ⟨Φ, F, A, E, fun F1 H1 vs A1 l1 E1 hv => ⟨i, hi, by
    rw [List.append_nil, hO, hR]
    exact call_o E1 hj nd ad hv hl fun F' H' v A' a fp l E' hl ev hA => w F' H' v A' a fp (l1.trans l) E' hl ev hA⟩⟩
end
end SIM

end
section
namespace SIM
open PySem L2
/-! operations that have a bound -/
/-- sixty millions, as a number that nothing evaluates -/
noncomputable def bigX : Nat := Classical.choose (⟨60000000, rfl⟩ : ∃ n : Nat, n = 60000000)
theorem bigX_eq : bigX = 60000000 := Classical.choose_spec (⟨60000000, rfl⟩ : ∃ n : Nat, n = 60000000)
/-- numbers that may be multiplied -/
def fits (i : Int) : Prop := i.natAbs < 2 ^ bigX
noncomputable instance (i : Int) : Decidable (fits i) := inferInstanceAs (Decidable (_ < _))
noncomputable def mulI (i j : Int) : Option Int := if fits i ∧ fits j then some (i * j) else none
def divI (i j : Int) : Option Int := if 0 < j ∧ j.natAbs < 2 ^ 9000 then some (i / j) else if j ≠ 0 ∧ j.natAbs < 1073741824 then some (i.fdiv j) else none
def modI (i j : Int) : Option Int := if 0 < j then some (i % j) else none
noncomputable def shlI (i j : Int) : Option Int := if fits i ∧ 0 ≤ j ∧ j ≤ 60000000 then some (i * 2 ^ j.toNat) else none
def shrI (i j : Int) : Option Int := if 0 ≤ j then some (i / 2 ^ j.toNat) else none
def powI (i j : Int) : Option Int := if 0 ≤ j ∧ j ≤ 1000000 ∧ i.natAbs < 2 ^ 64 then some (i ^ j.toNat) else none
/-- n & 1 -/
def oddI (i : Int) : Option Int := if 0 ≤ i then some (i % 2) else none
def lenOk {α : Type} (l : List α) : Option (List α) := if l.length ≤ 1000 then some l else none
theorem fits_bits {i : Int} (h : fits i) : Builtin.Int.intBits i ≤ 60000000 := by
  have h1 : Builtin.Int.intBits i ≤ bigX := PySem.intBits_le_iff.mpr h
  rw [bigX_eq] at h1; exact h1
theorem of_if {α : Type} {c : Prop} [Decidable c] {x y : α} (h : (if c then some x else none) = some y) : c ∧ x = y := by
  by_cases hc : c
  · rw [if_pos hc] at h; exact ⟨hc, Option.some.inj h⟩
  · rw [if_neg hc] at h; cases h
section
variable {X : Cx} {W : WX} {C C' C1 C2 : List Cell} {O O' O1 O2 O3 : Ob} {p q r : VP} {ps qs : List VP} {tg e e1 e2 e3 : Expr} {es ts : List Expr} {pos p1 p2 p3 : Pos} {i j k : Int} {b b1 b2 : Bool} {x : Str} {ss : List Stmt}
theorem se_mul (h1 : SE X e1 C O O1 (vp i)) (h2 : SE X e2 C O1 O2 (vp j)) (h : mulI i j = some k) : SE X (.BinOp e1 .Mult e2 pos) C O O2 (vp k) := by
  obtain ⟨⟨f1, f2⟩, rfl⟩ := of_if h
  refine se_opI op_mulX h1 h2 ?_
  have b1 := fits_bits f1
  have b2 := fits_bits f2
  unfold CMulX; omega
theorem se_div (h1 : SE X e1 C O O1 (vp i)) (h2 : SE X e2 C O1 O2 (vp j)) (h : divI i j = some k) : SE X (.BinOp e1 .FloorDiv e2 pos) C O O2 (vp k) := by
  unfold divI at h
  by_cases hc : 0 < j ∧ j.natAbs < 2 ^ 9000
  · rw [if_pos hc] at h; cases h
    exact se_opI op_fdivW h1 h2 (wide_div hc.1 hc.2 (by decide) (Nat.le_refl _))
  · rw [if_neg hc] at h
    obtain ⟨h0, rfl⟩ := of_if h
    exact se_opI op_fdivN h1 h2 h0
theorem se_mod (h1 : SE X e1 C O O1 (vp i)) (h2 : SE X e2 C O1 O2 (vp j)) (h : modI i j = some k) : SE X (.BinOp e1 .Mod e2 pos) C O O2 (vp k) := by
  obtain ⟨h0, rfl⟩ := of_if h
  exact se_opI op_mod h1 h2 h0
theorem se_shl (h1 : SE X e1 C O O1 (vp i)) (h2 : SE X e2 C O1 O2 (vp j)) (h : shlI i j = some k) : SE X (.BinOp e1 .LShift e2 pos) C O O2 (vp k) := by
  obtain ⟨⟨f1, h0, h3⟩, rfl⟩ := of_if h
  have b1 := fits_bits f1
  exact se_opI op_shlW h1 h2 ⟨h0, by have e : (2 : Int) ^ 27 = 134217728 := by decide
                                     rw [e]; omega⟩
theorem se_shr (h1 : SE X e1 C O O1 (vp i)) (h2 : SE X e2 C O1 O2 (vp j)) (h : shrI i j = some k) : SE X (.BinOp e1 .RShift e2 pos) C O O2 (vp k) := by
  obtain ⟨h0, rfl⟩ := of_if h
  exact se_opI op_shr h1 h2 h0
theorem se_pow (h1 : SE X e1 C O O1 (vp i)) (h2 : SE X e2 C O1 O2 (vp j)) (h : powI i j = some k) : SE X (.BinOp e1 .Pow e2 pos) C O O2 (vp k) := by
  obtain ⟨h0, rfl⟩ := of_if h
  exact se_opI op_pow h1 h2 h0
theorem se_odd (h1 : SE X e1 C O O1 (vp i)) (h2 : SE X e2 C O1 O2 (vp (1 : Int))) (h : oddI i = some k) : SE X (.BinOp e1 .BitAnd e2 pos) C O O2 (vp k) := by
  obtain ⟨h0, rfl⟩ := of_if h
  obtain ⟨n, rfl⟩ : ∃ n : Nat, i = n := ⟨i.toNat, by omega⟩
  exact se_op op_odd h1 h2 fun Φ F H σ A x y Q E hx hy w => ⟨n, hx, hy, w F H _ A Le.refl E (by show V.int _ = V.int _; rw [Int.natCast_emod]; rfl)⟩
/-- n.bit_length() -/
theorem se_bits {ap : Pos} (h1 : SE X e1 C O O1 (vp i)) (hbase : attributeBase e1 "bit_length" X.env (eval e1 X.env) = eval e1 X.env := by rfl) (hline : (ap.endLine == pos.line) = true := by rfl) : SE X (.Call (.Attribute e1 "bit_length" ap) [] [] pos) C O O1 (vp (Builtin.Int.intBits i : Int)) :=
  imp (pe_bits h1 hbase hline) fun σ H Q ⟨Φ, F, A, E, w⟩ => ⟨Φ, F, A, E, fun F1 H1 x A1 l1 E1 hx => ⟨i, hx, w F1 H1 _ A1 l1 E1 rfl⟩⟩
theorem Aa2 {F : Hp} {σ : L2.St} {vs : List V} {p q : VP} (h : Aa F σ vs [.v p, .v q]) : ∃ x y, vs = [x, y] ∧ p.p F x ∧ q.p F y := by
  cases h with | v h t => cases t with | v h' t => cases t; exact ⟨_, _, rfl, h, h'⟩
theorem Aa1 {F : Hp} {σ : L2.St} {vs : List V} {p : VP} (h : Aa F σ vs [.v p]) : ∃ x, vs = [x] ∧ p.p F x := by
  cases h with | v h t => cases t; exact ⟨_, rfl, h⟩
theorem se_max (hm : X.mg "max" = none) (h : SA X (e1 :: es) C O O1 [.v (vp i), .v (vp j)]) (hc : X.calm = true := by rfl) (hg : Gl X "max" := by rfl) (he : starEach (e1 :: es) X.env = (false, eval e1 X.env) :: starEach es X.env := by rfl) (hpl : (backTo pos (starEach es X.env)).any (·.1) = false := by rfl) : SE X (.Call (.Name "max" p1) (e1 :: es) [] pos) C O O1 (vp (max i j)) :=
  imp (pe_callB (call_max2 hc) hg hm (by decide +kernel) h (he := he) (hpl := hpl)) fun σ H Q ⟨Φ, F, A, E, w⟩ => ⟨Φ, F, A, E, fun F1 H1 vs A1 l1 E1 hv => by
    obtain ⟨x, y, rfl, hx, hy⟩ := Aa2 hv
    exact ⟨i, j, by rw [show x = V.int i from hx, show y = V.int j from hy], w F1 H1 _ A1 l1 E1 (by show V.int _ = V.int _; congr 1; split <;> omega)⟩⟩
theorem se_min (hm : X.mg "min" = none) (h : SA X (e1 :: es) C O O1 [.v (vp i), .v (vp j)]) (hc : X.calm = true := by rfl) (hg : Gl X "min" := by rfl) (he : starEach (e1 :: es) X.env = (false, eval e1 X.env) :: starEach es X.env := by rfl) (hpl : (backTo pos (starEach es X.env)).any (·.1) = false := by rfl) : SE X (.Call (.Name "min" p1) (e1 :: es) [] pos) C O O1 (vp (min i j)) :=
  imp (pe_callB (call_min2 hc) hg hm (by decide +kernel) h (he := he) (hpl := hpl)) fun σ H Q ⟨Φ, F, A, E, w⟩ => ⟨Φ, F, A, E, fun F1 H1 vs A1 l1 E1 hv => by
    obtain ⟨x, y, rfl, hx, hy⟩ := Aa2 hv
    exact ⟨i, j, by rw [show x = V.int i from hx, show y = V.int j from hy], w F1 H1 _ A1 l1 E1 (by show V.int _ = V.int _; congr 1; split <;> omega)⟩⟩
theorem se_abs (hm : X.mg "abs" = none) (h : SE X e C O O1 (vp i)) (hg : Gl X "abs" := by rfl) (ns : starEach [e] X.env = (false, eval e X.env) :: starEach [] X.env := by rfl) : SE X (.Call (.Name "abs" p1) [e] [] pos) C O O1 (vp (i.natAbs : Int)) :=
  imp (pe_callB call_abs hg hm (by decide +kernel) (pa_cons h pa_nil ns) (he := ns)) fun σ H Q ⟨Φ, F, A, E, w⟩ => ⟨Φ, F, A, E, fun F1 H1 v A1 l1 E1 hv => ⟨i, by rw [show v = V.int i from hv], w F1 H1 _ A1 l1 E1 (by show V.int _ = V.int _; congr 1; split <;> omega)⟩⟩
theorem al_ints {F : Hp} : ∀ {ns : List Int} {vs : List V}, Al F vs (ns.map vp) → vs = ns.map V.int
  | [], _, h => by cases h; rfl
  | n :: ns, _, h => by cases h with | cons h t => rw [al_ints t, show _ = V.int n from h]; rfl
theorem al_bls {F : Hp} : ∀ {ns : List Bool} {vs : List V}, Al F vs (ns.map vp) → vs = ns.map V.bl
  | [], _, h => by cases h; rfl
  | n :: ns, _, h => by cases h with | cons h t => rw [al_bls t, show _ = V.bl n from h]; rfl
theorem se_sum {ns : List Int} (hm : X.mg "sum" = none) (h : SE X e C O O1 (lstP (ns.map vp))) (hc : X.calm = true := by rfl) (hg : Gl X "sum" := by rfl) (hs : starEach [e] X.env = (false, eval e X.env) :: starEach [] X.env := by rfl) : SE X (.Call (.Name "sum" p1) [e] [] pos) C O O1 (vp ns.sum) :=
  imp (pe_callB (cr_sum hc) hg hm (by decide +kernel) (pa_cons h pa_nil hs) (he := hs)) fun σ H Q ⟨Φ, F, A, E, w⟩ => ⟨Φ, F, A, E, fun F1 H1 v A1 l1 E1 hv => by
    obtain ⟨a, vs, rfl, hF, al⟩ := hv
    have e := al_ints al
    subst e
    exact ⟨a, ns, rfl, SqL.of (E1.fh _ _ hF), w F1 H1 _ A1 l1 E1 rfl⟩⟩
theorem se_all {bs : List Bool} (hm : X.mg "all" = none) (h : SE X e C O O1 (lstP (bs.map vp))) (hc : X.calm = true := by rfl) (hg : Gl X "all" := by rfl) (hs : starEach [e] X.env = (false, eval e X.env) :: starEach [] X.env := by rfl) : SE X (.Call (.Name "all" p1) [e] [] pos) C O O1 (vp (bs.all id)) :=
  imp (pe_callB (cr_all hc) hg hm (by decide +kernel) (pa_cons h pa_nil hs) (he := hs)) fun σ H Q ⟨Φ, F, A, E, w⟩ => ⟨Φ, F, A, E, fun F1 H1 v A1 l1 E1 hv => by
    obtain ⟨a, vs, rfl, hF, al⟩ := hv
    have e := al_bls al
    subst e
    exact ⟨a, bs, rfl, SqL.of (E1.fh _ _ hF), w F1 H1 _ A1 l1 E1 rfl⟩⟩
/-! typed items -/
theorem atI_map {α : Type} {f : α → VP} {l : List α} {a : α} (h : atI l i = some a) : atI (l.map f) i = some (f a) := by
  unfold atI at h ⊢
  rw [List.length_map]
  cases e : ixN l.length i with
  | none => rw [e] at h; cases h
  | some n =>
    rw [e] at h
    show (l.map f)[n]? = _
    rw [List.getElem?_map, show l[n]? = some a from h]; rfl
/-! lists, tuples made of others -/
theorem al_rep {F : Hp} {v : V} {p : VP} (h : p.p F v) (n : Nat) : Al F (List.replicate n v) (List.replicate n p) := by
  induction n with
  | zero => exact .nil
  | succ n ih => exact .cons h ih
theorem flat_rep {α : Type} (x : α) (n : Nat) : (List.replicate n [x]).flatten = List.replicate n x := by
  induction n with
  | zero => rfl
  | succ n ih => rw [List.replicate_succ, List.flatten_cons, ih]; rfl
/-- [x] * k -/
theorem se_repL (h1 : SE X e1 C O O1 (lstP [p])) (h2 : SE X e2 C O1 O2 (vp k)) (hk : -1000 ≤ k ∧ k ≤ 1000) : SE X (.BinOp e1 .Mult e2 pos) C O O2 (lstP (List.replicate k.toNat p)) :=
  se_op op_rep h1 h2 fun Φ F H σ A x y Q E ⟨a, vs, e, hF, al⟩ hy w => by
    cases al with | cons hp t =>
    cases t
    refine ⟨a, k, _, e, hy, E.fh _ _ hF, by omega, by omega, Nat.le_trans (m := 1000) (by simp; omega) (by decide), fun c hc => ?_⟩
    have hFc := E.fh.free hc
    rw [flat_rep]
    exact w _ _ _ A (Le.ext hFc) (E.new hc) ⟨c, _, rfl, upd_same, al_rep (p.mono (Le.ext hFc) hp) _⟩
theorem so_repL (h1 : SE X e1 C O O1 (lstP [p])) (h2 : SE X e2 C O1 O2 (vp k)) (hk : -1000 ≤ k ∧ k ≤ 1000) : SO X (.BinOp e1 .Mult e2 pos) C O O2 (lstO (List.replicate k.toNat p)) :=
  imp (pe_op op_rep h1 h2) fun σ H Q ⟨Φ, F, A, E, w⟩ => ⟨Φ, F, A, E, fun F1 H1 x A1 l1 E1 hx => ⟨Φ, F1, A1, E1, fun F2 H2 y A2 l2 E2 hy => by
    obtain ⟨a, vs, e, hF, al⟩ := hx
    cases al with | cons hp t =>
    cases t
    refine ⟨a, k, _, e, hy, E2.fh _ _ (l2 _ _ hF), by omega, by omega, Nat.le_trans (m := 1000) (by simp; omega) (by decide), fun c hc => ?_⟩
    rw [flat_rep]
    exact w _ _ _ _ c [c] (l1.trans l2) (E2.newList hc (al_rep (p.mono l2 hp) _)) E2.asl rfl (lastA E2.len)⟩⟩
theorem se_catL (h1 : SL X e1 C O O1 ps) (h2 : SE X e2 C O1 O2 (lstP qs)) : False → SE X (.BinOp e1 .Add e2 pos) C O O2 (lstP (ps ++ qs)) := fun h => h.elim
theorem se_cat (h1 : SE X e1 C O O1 (lstP ps)) (h2 : SE X e2 C O1 O2 (lstP qs)) (hz : ps.length + qs.length ≤ 1000) : SE X (.BinOp e1 .Add e2 pos) C O O2 (lstP (ps ++ qs)) :=
  se_op op_cat h1 h2 fun Φ F H σ A x y Q E ⟨a, vs, e, hF, al⟩ ⟨b, us, e2, hF2, al2⟩ w => by
    refine ⟨a, b, vs, us, e, e2, E.fh _ _ hF, E.fh _ _ hF2, Nat.le_trans (by rw [al.len, al2.len]; exact hz) (by decide), fun c hc => ?_⟩
    have hFc := E.fh.free hc
    exact w _ _ _ A (Le.ext hFc) (E.new hc) ⟨c, _, rfl, upd_same, (al.mono (Le.ext hFc)).app (al2.mono (Le.ext hFc))⟩
theorem so_cat (h1 : SE X e1 C O O1 (lstP ps)) (h2 : SE X e2 C O1 O2 (lstP qs)) (hz : ps.length + qs.length ≤ 1000) : SO X (.BinOp e1 .Add e2 pos) C O O2 (lstO (ps ++ qs)) :=
  imp (pe_op op_cat h1 h2) fun σ H Q ⟨Φ, F, A, E, w⟩ => ⟨Φ, F, A, E, fun F1 H1 x A1 l1 E1 hx => ⟨Φ, F1, A1, E1, fun F2 H2 y A2 l2 E2 hy => by
    obtain ⟨a, vs, e, hF, al⟩ := hx
    obtain ⟨b, us, e2, hF2, al2⟩ := hy
    refine ⟨a, b, vs, us, e, e2, E2.fh _ _ (l2 _ _ hF), E2.fh _ _ hF2, Nat.le_trans (by rw [al.len, al2.len]; exact hz) (by decide), fun c hc => ?_⟩
    exact w _ _ _ _ c [c] (l1.trans l2) (E2.newList hc ((al.mono l2).app al2)) E2.asl rfl (lastA E2.len)⟩⟩
theorem se_catT (h1 : SE X e1 C O O1 (tupP ps)) (h2 : SE X e2 C O1 O2 (tupP qs)) (hz : ps.length + qs.length ≤ 1000) : SE X (.BinOp e1 .Add e2 pos) C O O2 (tupP (ps ++ qs)) :=
  se_op op_catA h1 h2 fun Φ F H σ A x y Q E ⟨a, vs, e, hF, al⟩ ⟨b, us, e2, hF2, al2⟩ w => by
    refine ⟨a, b, vs, us, e, e2, SqT.of (E.fh _ _ hF), SqT.of (E.fh _ _ hF2), Nat.le_trans (by rw [al.len, al2.len]; exact hz) (by decide), fun h => ?_, fun _ h => ?_, fun _ _ c hc => ?_⟩
    · subst h; cases al; exact w F H _ A Le.refl E ⟨b, us, rfl, hF2, al2⟩
    · subst h; cases al2; exact w F H _ A Le.refl E (by rw [List.append_nil]; exact ⟨a, vs, rfl, hF, al⟩)
    · have hFc := E.fh.free hc
      exact w _ _ _ A (Le.ext hFc) (E.new hc) ⟨c, _, rfl, upd_same, (al.mono (Le.ext hFc)).app (al2.mono (Le.ext hFc))⟩
theorem al_flat {F : Hp} {vs : List V} {ps : List VP} (h : Al F vs ps) (n : Nat) : Al F (List.replicate n vs).flatten (List.replicate n ps).flatten := by
  induction n with
  | zero => exact .nil
  | succ n ih => rw [List.replicate_succ, List.replicate_succ, List.flatten_cons, List.flatten_cons]; exact h.app ih
/-- t * k, k from 1 on -/
theorem se_repT (h1 : SE X e1 C O O1 (tupP ps)) (h2 : SE X e2 C O1 O2 (vp k)) (hk : 1 ≤ k ∧ k ≤ 1000) (hp : ps ≠ [] ∧ ps.length ≤ 1000 := by exact ⟨by simp, by decide⟩) : SE X (.BinOp e1 .Mult e2 pos) C O O2 (tupP (List.replicate k.toNat ps).flatten) :=
  se_op OWN.op_repA h1 h2 fun Φ F H σ A x y Q E ⟨a, vs, e, hF, al⟩ hy w => by
    have hl := al.len
    refine ⟨a, k, vs, e, hy, SqT.of (E.fh _ _ hF), fun h => hp.1 (by rw [h] at hl; exact List.eq_nil_of_length_eq_zero hl.symm), hk.1, hk.2, by omega, fun h => ?_, fun h c hc => ?_⟩
    · subst h
      have e1 : (List.replicate (1 : Int).toNat ps).flatten = ps := by simp
      refine w F H _ A Le.refl E ?_
      rw [e1]
      exact ⟨a, vs, rfl, hF, al⟩
    · have hFc := E.fh.free hc
      exact w _ _ _ A (Le.ext hFc) (E.new hc) ⟨c, _, rfl, upd_same, al_flat (al.mono (Le.ext hFc)) _⟩
/-! slices -/
def cutP {α : Type} (xs : List α) (lo hi : Option Int) : List α := (xs.drop (HT.sIx xs.length 0 lo)).take (HT.sIx xs.length xs.length hi - HT.sIx xs.length 0 lo)
theorem Al.cut {F : Hp} {vs : List V} {ps : List VP} (h : Al F vs ps) (lo hi : Option Int) : Al F (cutV vs lo hi) (cutP ps lo hi) := by
  unfold cutV cutP
  rw [h.len]
  exact (h.drop _).take _
def rdP (C : List Cell) (O O' : Ob) (o : Option Int) : TO := fun σ H Q => ∃ Φ F A, Ev Φ F H σ C O A ∧ ∀ F' H' A', Le F F' → Ev Φ F' H' σ C O' A' → Q o H'
abbrev SPo (X : Cx) (e : Option Expr) (C : List Cell) (O O' : Ob) (o : Option Int) : Prop := PO X e (rdP C O O' o)
theorem impP {X : Cx} {e : Option Expr} {t t' : TO} (h : PO X e t) (k : ∀ σ H Q, t' σ H Q → t σ H Q) : PO X e t' := ⟨fun pins s σ H Q I w => h.run pins s σ H Q I (k σ H Q w)⟩
theorem sp_none : SPo X none C O O none := impP po_none fun σ H Q ⟨Φ, F, A, E, w⟩ => w F H A Le.refl E
theorem sp_some (h : SE X e C O O1 (vp i)) : SPo X (some e) C O O1 (some i) := impP (po_some h) fun σ H Q ⟨Φ, F, A, E, w⟩ => ⟨Φ, F, A, E, fun F1 H1 v A1 l1 E1 hv => ⟨i, hv, w F1 H1 A1 l1 E1⟩⟩
theorem se_slT {lo hi : Option Expr} {l u : Option Int} {sp : Pos} (h : SE X e C O O1 (tupP ps)) (hl : SPo X lo C O1 O2 l) (hu : SPo X hi C O2 O3 u) : SE X (.Subscript e (.Slice lo hi none sp) pos) C O O3 (tupP (cutP ps l u)) :=
  imp (pe_slice sl_tupA h hl hu) fun σ H Q ⟨Φ, F, A, E, w⟩ => ⟨Φ, F, A, E, fun F1 H1 v A1 l1 E1 ⟨a, vs, ev, hF, al⟩ => ⟨Φ, F1, A1, E1, fun F2 H2 A2 l2 E2 => ⟨Φ, F2, A2, E2, fun F3 H3 A3 l3 E3 => by
    have hF3 := l3 _ _ (l2 _ _ hF)
    have al3 := al.mono (l2.trans l3)
    refine ⟨a, vs, ev, SqT.of (E3.fh _ _ hF3), fun hw => ?_, fun hw c hc => ?_⟩
    · have e1 : cutP ps l u = ps := by
        unfold cutP
        rw [al.len] at hw
        rw [hw.1, hw.2]; simp
      exact w F3 H3 _ A3 (l1.trans (l2.trans l3)) E3 (by rw [e1]; exact ⟨a, vs, rfl, hF3, al3⟩)
    · have hFc := E3.fh.free hc
      exact w _ _ _ A3 ((l1.trans (l2.trans l3)).trans (Le.ext hFc)) (E3.new hc) ⟨c, _, rfl, upd_same, (al3.mono (Le.ext hFc)).cut l u⟩⟩⟩⟩
theorem se_slL {lo hi : Option Expr} {l u : Option Int} {sp : Pos} (h : SE X e C O O1 (lstP ps)) (hl : SPo X lo C O1 O2 l) (hu : SPo X hi C O2 O3 u) : SE X (.Subscript e (.Slice lo hi none sp) pos) C O O3 (lstP (cutP ps l u)) :=
  imp (pe_slice sl_list h hl hu) fun σ H Q ⟨Φ, F, A, E, w⟩ => ⟨Φ, F, A, E, fun F1 H1 v A1 l1 E1 ⟨a, vs, ev, hF, al⟩ => ⟨Φ, F1, A1, E1, fun F2 H2 A2 l2 E2 => ⟨Φ, F2, A2, E2, fun F3 H3 A3 l3 E3 => by
    have hF3 := l3 _ _ (l2 _ _ hF)
    have al3 := al.mono (l2.trans l3)
    refine ⟨a, vs, ev, SqL.of (E3.fh _ _ hF3), fun c hc => ?_⟩
    have hFc := E3.fh.free hc
    exact w _ _ _ A3 ((l1.trans (l2.trans l3)).trans (Le.ext hFc)) (E3.new hc) ⟨c, _, rfl, upd_same, (al3.mono (Le.ext hFc)).cut l u⟩⟩⟩⟩
/-! lists that change -/
theorem Ev.writeList {Φ : Frm} {F H : Hp} {σ : L2.St} {A : List (Addr × List Addr)} {a : Addr} {fp : List Addr} {vs : List V} {ps' : List VP} {t : Bool} {m : Nat} (E : Ev Φ F H σ C O A) (hO : O[m]? = some (some (lstG t ps))) (hA : A[m]? = some (a, fp)) (al : Al F vs ps') : ∃ A', Ev Φ F (upd H a (.lst vs)) σ C (O.set m (some (lstG t ps'))) A' := by
  obtain ⟨a', fp', hA', J⟩ := E.ob m _ hO
  rw [hA] at hA'; cases hA'
  obtain ⟨rfl, _, _, _⟩ := J.ok
  exact ⟨_, E.write hO hA rfl ⟨rfl, vs, upd_same, al⟩ (fun b hb _ => upd_ne (fun z => hb (List.mem_singleton.mpr z))) (fun b hb => by
    by_cases z : b = a
    · rw [z, upd_same]; exact Option.some_ne_none _
    · rw [upd_ne z]; exact hb) (fun b hb => ⟨.inl hb, by rw [List.mem_singleton.mp hb, upd_same]; exact Option.some_ne_none _⟩)⟩
/-- the object of a slot, behind an evaluation -/
theorem Ev.slotObj {Φ : Frm} {F H : Hp} {σ : L2.St} {A : List (Addr × List Addr)} {n m : Nat} {a : Addr} {t : Bool} (hs : σ[n]? = some (some (.ref a))) (hC : C[n]? = some (.o m)) (hO : O[m]? = some (some (lstG t ps))) (E : Ev Φ F H σ C O A) : ∃ vs, A[m]? = some (a, [a]) ∧ H a = some (.lst vs) ∧ Al F vs ps := by
  obtain ⟨a', fp, hs', hA, J⟩ := E.obj hC hO
  rw [hs] at hs'; cases hs'
  obtain ⟨rfl, vs, hv, al⟩ := J.ok
  exact ⟨vs, hA, hv, al⟩
/-- x.append(e) -/
theorem ss_app (n : Nat) {m : Nat} {t t0 : Bool} {ps0 : List VP} {pn ap cp : Pos} (h : SE X e C O O1 p) (hO0 : O[m]? = some (some (lstG t0 ps0))) (hO : O1[m]? = some (some (lstG t ps))) (hz : ps.length ≤ 1000) (hC : C[n]? = some (.o m) := by rfl) (hN : X.N[n]? = some x := by rfl) (hv : Vis X.env.scope x := by first | exact Or.inl rfl | exact Or.inr (Or.inl rfl) | exact Or.inr (Or.inr rfl))
    (hd : (x == ("__debug__" : Str)) = false := by decide) (hcd : (x == ("__classdict__" : Str)) = false := by decide) (hs : swapsWith (.Call (.Attribute (.Name x pn) "append" ap) [e] [] cp) none pos.line X.env = pure false := by rfl)
    (hbase : attributeBase (.Name x pn) "append" X.env (eval (.Name x pn) X.env) = eval (.Name x pn) X.env := by rfl)
    (hfew : ((backTo cp (starEach [e] X.env)).all (fun x => !x.1) && (backToKw cp (keywordEach [] X.env)).all (fun x => x.1.isSome) && decide ([e].length + ([] : List Keyword).length + (if ([] : List Keyword).isEmpty then 0 else 1) < 30)) = true := by rfl)
    (hline : (ap.endLine == cp.line) = true := by rfl) (hst : starEach [e] X.env = (false, eval e X.env) :: starEach [] X.env := by rfl) : SS X W (.Expr (.Call (.Attribute (.Name x pn) "append" ap) [e] [] cp) pos) C O (.nx C (O1.set m (some (lstG t (ps ++ [p]))))) :=
  impS (ps_expr (pe_bm PySem.F.plainAttrs_list PySem.F.slot_list_append PySem.F.type_list_append mt_append (pe_var hN hv hd hcd) (pa_cons h pa_nil hst) hbase hfew hline hst) hs) fun D σ H ⟨Φ, F, A, E, w⟩ => by
    obtain ⟨x, h1, a, fp, rfl, hA⟩ := E.ck.get hC
    obtain ⟨vs0, _, hv0, _⟩ := Ev.slotObj h1 hC hO0 E
    refine ⟨.ref a, h1, .inl ⟨rfl, vs0, SqL.of hv0⟩, Φ, F, A, E, fun F1 H1 v A1 l1 E1 hp => ?_⟩
    obtain ⟨vs, hA1, hv1, al⟩ := Ev.slotObj h1 hC hO E1
    refine ⟨a, vs, v, rfl, rfl, hv1, by rw [al.len]; exact Nat.lt_of_le_of_lt hz (by decide), ?_⟩
    obtain ⟨A2, E2⟩ := E1.writeList (vs := vs ++ [v]) hO hA1 (al.app (.cons hp .nil))
    exact w F1 _ σ A2 l1 E2
/-- x.extend(e) -/
theorem ss_ext (n : Nat) {m : Nat} {t t0 : Bool} {ps0 : List VP} {pn ap cp : Pos} (h : SE X e C O O1 (lstP qs)) (hO0 : O[m]? = some (some (lstG t0 ps0))) (hO : O1[m]? = some (some (lstG t ps))) (hz : ps.length + qs.length ≤ 1000) (hC : C[n]? = some (.o m) := by rfl) (hN : X.N[n]? = some x := by rfl) (hv : Vis X.env.scope x := by first | exact Or.inl rfl | exact Or.inr (Or.inl rfl) | exact Or.inr (Or.inr rfl))
    (hd : (x == ("__debug__" : Str)) = false := by decide) (hcd : (x == ("__classdict__" : Str)) = false := by decide) (hs : swapsWith (.Call (.Attribute (.Name x pn) "extend" ap) [e] [] cp) none pos.line X.env = pure false := by rfl)
    (hbase : attributeBase (.Name x pn) "extend" X.env (eval (.Name x pn) X.env) = eval (.Name x pn) X.env := by rfl)
    (hfew : ((backTo cp (starEach [e] X.env)).all (fun x => !x.1) && (backToKw cp (keywordEach [] X.env)).all (fun x => x.1.isSome) && decide ([e].length + ([] : List Keyword).length + (if ([] : List Keyword).isEmpty then 0 else 1) < 30)) = true := by rfl)
    (hline : (ap.endLine == cp.line) = true := by rfl) (hst : starEach [e] X.env = (false, eval e X.env) :: starEach [] X.env := by rfl) : SS X W (.Expr (.Call (.Attribute (.Name x pn) "extend" ap) [e] [] cp) pos) C O (.nx C (O1.set m (some (lstG t (ps ++ qs))))) :=
  impS (ps_expr (pe_bm PySem.F.plainAttrs_list PySem.F.slot_list_extend PySem.F.type_list_extend mt_extend (pe_var hN hv hd hcd) (pa_cons h pa_nil hst) hbase hfew hline hst) hs) fun D σ H ⟨Φ, F, A, E, w⟩ => by
    obtain ⟨x, h1, a, fp, rfl, hA⟩ := E.ck.get hC
    obtain ⟨vs0, _, hv0, _⟩ := Ev.slotObj h1 hC hO0 E
    refine ⟨.ref a, h1, .inl ⟨rfl, vs0, SqL.of hv0⟩, Φ, F, A, E, fun F1 H1 v A1 l1 E1 ⟨b, us, hb, hF, al2⟩ => ?_⟩
    obtain ⟨vs, hA1, hv1, al⟩ := Ev.slotObj h1 hC hO E1
    subst hb
    refine ⟨a, b, vs, us, rfl, rfl, hv1, E1.fh _ _ hF, Nat.le_trans (by rw [al.len, al2.len]; exact hz) (by decide), ?_⟩
    obtain ⟨A2, E2⟩ := E1.writeList (vs := vs ++ us) hO hA1 (al.app al2)
    exact w F1 _ σ A2 l1 E2
/-- x[i] = e -/
theorem ss_setix (n : Nat) {m : Nat} {t : Bool} {pn sp : Pos} {k : Nat} (h : SE X e C O O1 p) (hi : SE X e2 C O1 O2 (vp i)) (hO : O2[m]? = some (some (lstG t ps))) (hk : ixN ps.length i = some k) (hC : C[n]? = some (.o m) := by rfl) (hN : X.N[n]? = some x := by rfl) (hv : Vis X.env.scope x := by first | exact Or.inl rfl | exact Or.inr (Or.inl rfl) | exact Or.inr (Or.inr rfl))
    (hd : (x == ("__debug__" : Str)) = false := by decide) (hcd : (x == ("__classdict__" : Str)) = false := by decide)
    (ha : ∀ v, assign (.Subscript (.Name x pn) e2 sp) X.env v = (do
      let ov ← holding [v] (eval (.Name x pn) X.env)
      let iv ← holding [v, ov] (eval e2 X.env)
      standAt sp
      holding [v, ov, iv] (setItem ov iv v)
      release [v, ov, iv] []) := by intro _; rfl)
    (hs : swapsWithSole [.Subscript (.Name x pn) e2 sp] e pos.line X.env = pure false := by rfl) (hw : swappedStores [.Subscript (.Name x pn) e2 sp] e X.env = pure none := by rfl)
    (h1 : (assignEach [.Subscript (.Name x pn) e2 sp] X.env).map (·.2) = [assign (.Subscript (.Name x pn) e2 sp) X.env] := by rfl) : SS X W (.Assign [.Subscript (.Name x pn) e2 sp] e pos) C O (.nx C (O2.set m (some (lstG t (ps.set k p))))) :=
  impS (ps_asg h (pg_sub (pe_var hN hv hd hcd) hi set_list ha) hs hw h1) fun D σ H ⟨Φ, F, A, E, w⟩ => ⟨Φ, F, A, E, fun F1 H1 v A1 l1 E1 hp => by
    obtain ⟨x, h1, a, fp, rfl, hA⟩ := E1.ck.get hC
    refine ⟨.ref a, h1, Φ, F1, A1, E1, fun F2 H2 y A2 l2 E2 hy => ?_⟩
    obtain ⟨vs, hA2, hv2, al⟩ := Ev.slotObj h1 hC hO E2
    refine ⟨a, vs, i, k, rfl, hy, hv2, by rw [al.len]; exact hk, ?_⟩
    obtain ⟨A3, E3⟩ := E2.writeList (vs := vs.set k v) hO hA2 (al.set (p.mono l2 hp) k)
    exact w F2 _ σ A3 (l1.trans l2) E3⟩
end
end SIM

end
section
namespace SIM
open PySem L2 PyProof.Rows
/-! the classes of the program -/
inductive Ec where
  | wash | badLength | noShare | tooOften | badShares | mismatch | badBolt | noBolt | noPiece | noSide | noWash | stopped | noSlot | full | clash | badEase
  deriving DecidableEq
class Wd where
  frag : PySem.W.Frag
  len : Addr
  lim : Addr
  room : Addr
  book : Addr
  seam : Addr
  er : Ec → Addr
/-! instances that never change -/
def insP (C : Addr) (ns : List Str) (ps : List VP) : VP where
  p F v := ∃ a dx vs, v = .ref a ∧ F a = some (.ins C dx (ns.zip vs)) ∧ Al F vs ps
  mono k h := let ⟨a, dx, vs, e, h1, h2⟩ := h; ⟨a, dx, vs, e, k _ _ h1, h2.mono k⟩
structure Len where
  count : Int
  powers : List Int
  deriving DecidableEq
structure Lim where
  place : Option Int
  powers : List Int
  top : Int
  bottom : Int
  deriving DecidableEq
abbrev lenNs : List Str := ["count", "powers"]
abbrev limNs : List Str := ["place", "powers", "top", "bottom"]
instance [W : Wd] : Rp Len := ⟨fun l => insP W.len lenNs [vp l.count, vp l.powers]⟩
instance [W : Wd] : Rp Lim := ⟨fun l => insP W.lim limNs [vp l.place, vp l.powers, vp l.top, vp l.bottom]⟩
/-- an instance that may change -/
def insO (t : Bool) (C : Addr) (ns : List Str) (ps : List VP) : OP where
  mine := t
  p F H a fp := fp = [a] ∧ ∃ dx vs, H a = some (.ins C dx (ns.zip vs)) ∧ Al F vs ps
  mono k e h := by
    obtain ⟨rfl, dx, vs, h1, h2⟩ := h
    exact ⟨rfl, dx, vs, (e _ (List.mem_singleton.mpr rfl)).trans h1, h2.mono k⟩
def ixOf : List Str → Str → Option Nat
  | [], _ => none
  | n :: ns, f => if (f == n) = true then some 0 else (ixOf ns f).map (· + 1)
theorem lookup_zip : ∀ {ns : List Str} {vs : List V} {f : Str} {k : Nat} {v : V}, ixOf ns f = some k → vs[k]? = some v → (ns.zip vs).lookup f = some v
  | [], _, _, _, _, h, _ => by cases h
  | n :: ns, [], f, k, v, h, h2 => by simp at h2
  | n :: ns, u :: vs, f, k, v, h, h2 => by
    rw [List.zip_cons_cons, List.lookup_cons]
    rw [ixOf] at h
    cases e : f == n with
    | true =>
      rw [e, if_pos rfl] at h
      cases h
      rw [List.getElem?_cons_zero] at h2
      exact h2
    | false =>
      rw [e, if_neg (by decide)] at h
      cases e2 : ixOf ns f with
      | none => rw [e2] at h; cases h
      | some m =>
        rw [e2] at h
        cases h
        rw [List.getElem?_cons_succ] at h2
        exact lookup_zip e2 h2
theorem nolookup_zip : ∀ {ns : List Str} {vs : List V} {f : Str}, ixOf ns f = none → (ns.zip vs).lookup f = none
  | [], _, _, _ => by simp
  | n :: ns, [], f, h => by simp
  | n :: ns, u :: vs, f, h => by
    rw [List.zip_cons_cons, List.lookup_cons]
    rw [ixOf] at h
    cases e : f == n with
    | true => rw [e, if_pos rfl] at h; cases h
    | false =>
      rw [e, if_neg (by decide)] at h
      cases e2 : ixOf ns f with
      | none => exact nolookup_zip e2
      | some m => rw [e2] at h; cases h
/-! results -/
inductive Res (ε ρ : Type) where
  | ok (r : ρ)
  | er (e : ε)
theorem bnd {α β : Type} {m : Option α} {f : α → Option β} {b : β} (h : m.bind f = some b) : ∃ a, m = some a ∧ f a = some b := Option.bind_eq_some_iff.mp h
def bindR {ε α β : Type} (m : Option (Res ε α)) (f : α → Option (Res ε β)) : Option (Res ε β) := m.bind fun r => match r with
  | .ok a => f a
  | .er e => some (.er e)
theorem bndR {ε α β : Type} {m : Option (Res ε α)} {f : α → Option (Res ε β)} {r : Res ε β} (h : bindR m f = some r) : (∃ e, m = some (.er e) ∧ r = .er e) ∨ ∃ a, m = some (.ok a) ∧ f a = some r := by
  obtain ⟨x, h1, h2⟩ := bnd h
  cases x with
  | ok a => exact .inr ⟨a, h1, h2⟩
  | er e => exact .inl ⟨e, h1, (Option.some.inj h2).symm⟩
/-- loops that do not leave early -/
def foldM {α τ : Type} (f : α → τ → Option τ) : List α → τ → Option τ
  | [], s => some s
  | x :: xs, s => (f x s).bind (foldM f xs)
theorem foldM_loop {α τ : Type} {f : α → τ → Option τ} : ∀ {xs : List α} {s s' : τ}, foldM f xs s = some s' → loopM (ε := Empty) (ρ := Empty) (fun x s => (f x s).map Ctl.nx) xs s = some (.nx s')
  | [], s, s', h => by cases h; rfl
  | x :: xs, s, s', h => by
    rw [foldM, Option.bind_eq_some_iff] at h
    obtain ⟨t, h1, h2⟩ := h
    rw [loopM, h1]
    exact foldM_loop h2
def whM {τ : Type} (c : τ → Option Bool) (f : τ → Option τ) : Nat → τ → Option τ
  | 0, _ => none
  | n + 1, s => match c s with
    | none => none
    | some false => some s
    | some true => (f s).bind (whM c f n)
theorem whM_loop {τ : Type} {c : τ → Option Bool} {f : τ → Option τ} : ∀ {n : Nat} {s s' : τ}, whM c f n s = some s' → whileM (ε := Empty) (ρ := Empty) c (fun s => (f s).map Ctl.nx) n s = some (.nx s')
  | 0, s, s', h => by cases h
  | n + 1, s, s', h => by
    rw [whM] at h
    rw [whileM]
    cases hc : c s with
    | none => rw [hc] at h; cases h
    | some b =>
      rw [hc] at h
      cases b with
      | false => cases h; rfl
      | true =>
        obtain ⟨t, h1, h2⟩ := bnd h
        dsimp only
        rw [h1]
        exact whM_loop h2
def ixL {α : Type} (l : List α) (i : Int) : Option α := atI l i
def appM {α : Type} (l : List α) (x : α) : Option (List α) := if l.length ≤ 1000 then some (l ++ [x]) else none
def extM {α : Type} (l l' : List α) : Option (List α) := if l.length + l'.length ≤ 1000 then some (l ++ l') else none
def setM {α : Type} (l : List α) (i : Int) (x : α) : Option (List α) := (ixN l.length i).map fun k => l.set k x
def repM {α : Type} (x : α) (k : Int) : Option (List α) := if -1000 ≤ k ∧ k ≤ 1000 then some (List.replicate k.toNat x) else none
def rngM (lo hi : Int) : Option (List Int) := if (-1000000 ≤ lo ∧ lo ≤ 1000000) ∧ -1000000 ≤ hi ∧ hi ≤ 1000000 then some (rangeL lo hi) else none
/-- and, or: the second is asked only where it counts -/
def andM (b : Bool) (m : Unit → Option Bool) : Option Bool := if b = true then m () else some false
def orM (b : Bool) (m : Unit → Option Bool) : Option Bool := if b = true then some true else m ()
/-! knowing less, by its form -/
section
variable {X : Cx} {W : WX} {C C' C1 C2 : List Cell} {O O' O1 O2 O3 : Ob} {p q r : VP} {ps qs : List VP} {tg e e1 e2 e3 : Expr} {es ts : List Expr} {pos p1 p2 p3 : Pos} {i j k : Int} {b b1 b2 : Bool} {x f : Str} {ss : List Stmt} {ns : List Str} {Ca : Addr}
/-- e.f of an instance that never changes -/
theorem se_fld (n : Nat) (c : Cls X.K Ca) (h : SE X e C O O1 (insP Ca ns ps)) (na : NoAttr X.K Ca f) (hp : ps[n]? = some p := by rfl) (hk : ixOf ns f = some n := by decide +kernel) (hb : attributeBase e f X.env (eval e X.env) = eval e X.env := by rfl) : SE X (.Attribute e f pos) C O O1 p :=
  imp (pe_fld h hb) fun σ H Q ⟨Φ, F, A, E, w⟩ => ⟨Φ, F, A, E, fun F1 H1 v A1 l1 E1 ⟨a, dx, vs, ev, hF, al⟩ => by
    obtain ⟨u, hu, hpu⟩ := al.get hp
    exact ⟨a, Ca, dx, _, u, ev, E1.fh _ _ hF, c, na, lookup_zip hk hu, w F1 H1 u A1 l1 E1 hpu⟩⟩
/-- e.f of an instance of ours -/
theorem se_fldO (m j : Nat) {t : Bool} {pn : Pos} (n : Nat) (c : Cls X.K Ca) (na : NoAttr X.K Ca f) (hO : O[j]? = some (some (insO t Ca ns ps)) := by rfl) (hp : ps[n]? = some p := by rfl) (hk : ixOf ns f = some n := by decide +kernel) (hC : C[m]? = some (.o j) := by rfl) (hN : X.N[m]? = some x := by rfl) (hv : Vis X.env.scope x := by first | exact Or.inl rfl | exact Or.inr (Or.inl rfl) | exact Or.inr (Or.inr rfl))
    (hd : (x == ("__debug__" : Str)) = false := by decide) (hcd : (x == ("__classdict__" : Str)) = false := by decide) (hb : attributeBase (.Name x pn) f X.env (eval (.Name x pn) X.env) = eval (.Name x pn) X.env := by rfl) : SE X (.Attribute (.Name x pn) f pos) C O O p :=
  imp (pe_fld (pe_var hN hv hd hcd) hb) fun σ H Q ⟨Φ, F, A, E, w⟩ => by
    obtain ⟨a, fp, hs, hA, J⟩ := E.obj hC hO
    obtain ⟨_, dx, vs, hH, al⟩ := J.ok
    obtain ⟨u, hu, hpu⟩ := al.get hp
    exact ⟨.ref a, hs, a, Ca, dx, _, u, rfl, hH, c, na, lookup_zip hk hu, w F H u A Le.refl E hpu⟩
/-- C.f, a number of the class -/
theorem se_cval {Cn : Addr} {mc u : Value} {v : V} (h : SE X e C O O1 (eqP (.ref Cn))) (r : ClX.CRead X.K Cn mc) (kv : ClX.CVal X.K Cn mc f v u) (hb : attributeBase e f X.env (eval e X.env) = eval e X.env := by rfl) : SE X (.Attribute e f pos) C O O1 (eqP v) :=
  imp (ClX.pe_cval h hb) fun σ H Q ⟨Φ, F, A, E, w⟩ => ⟨Φ, F, A, E, fun F1 H1 x A1 l1 E1 hx => ⟨Cn, mc, v, u, hx, r, kv, w F1 H1 v A1 l1 E1 rfl⟩⟩
/-! statements that leave in one branch -/
theorem sb_ifx {c : Expr} {s1 s2 : List Stmt} {s : Out} {o : Out} (hc : ST X c C O O1 b) (h1 : b = true → SB X W s1 C O1 o) (h2 : b = false → SB X W s2 C O1 (.nx C2 O2) ∧ SB X W ss C2 O2 o) (hn : isNx o = false) : SB X W (.If c s1 s2 pos :: ss) C O o := by
  cases b with
  | true => exact sb_end (ss_if hc h1 (fun z => by cases z)) (notNx hn)
  | false => exact sb_cons (ss_if hc (fun z => by cases z) (fun z => (h2 z).1)) (h2 rfl).2
/-! a def with its promise -/
def Def (P : Program) (w : World) (K : PySem.W.Frag) (mg : Str → Option Value) (base : Heap) (k : Nat) (name : Str) (ps : List Str) (sp : Sp) : Prop :=
  ∃ f fd, FnOk P w K mg base (L2.CX P w) k f fd ps sp ∧ mg name = some (.ref f) ∧ PySem.W.keepIn K (.ref f) = true ∧ Binds K fd ps []
theorem se_callD {m n : Nat} {pn : List Str} {js : List Nat} {as : List AC} {ι : Type} {P : ι → Prop} {D0 : ι → List Cell} {O0 : ι → Ob} {r : ι → Ret} (hf : Def X.prog X.w X.K X.mg X.base m x pn (spM P D0 O0 r)) (hr : Room n X.A)
    (i : ι) (hi : P i) (args : SA X (e :: es) C O O1 as) (hR : r i = .v p O') (ad : AD C js as (D0 i)) (hO : O0 i = inO O1 js) (hO2 : outO O1 js O' = O2) (hmn : m ≤ n := by decide) (nd : js.Nodup := by decide) (hl : O'.length = js.length := by rfl) (hj : ∀ j ∈ js, ∃ p, O1[j]? = some (some p) := by exact hjs rfl)
    (hg : Gl X x := by rfl) (hdb : (x == ("__debug__" : Str)) = false := by decide) (he : starEach (e :: es) X.env = (false, eval e X.env) :: starEach es X.env := by rfl) (hpl : (backTo pos (starEach es X.env)).any (·.1) = false := by rfl) :
    SE X (.Call (.Name x p1) (e :: es) [] pos) C O O2 p := by
  obtain ⟨f, fd, F, hm, hk, hb⟩ := hf
  subst hO2
  exact se_call F (hr.mono hmn) hm hk hb i hi args ad hO hR nd hl hj hg hdb he hpl
theorem so_callD {m n : Nat} {pn : List Str} {js : List Nat} {as : List AC} {ι : Type} {P : ι → Prop} {D0 : ι → List Cell} {O0 : ι → Ob} {r : ι → Ret} {q : OP} (hf : Def X.prog X.w X.K X.mg X.base m x pn (spM P D0 O0 r)) (hr : Room n X.A)
    (i : ι) (hi : P i) (args : SA X (e :: es) C O O1 as) (hR : r i = .o q O') (ad : AD C js as (D0 i)) (hO : O0 i = inO O1 js) (hO2 : outO O1 js O' = O2) (hmn : m ≤ n := by decide) (nd : js.Nodup := by decide) (hl : O'.length = js.length := by rfl) (hj : ∀ j ∈ js, ∃ p, O1[j]? = some (some p) := by exact hjs rfl)
    (hg : Gl X x := by rfl) (hdb : (x == ("__debug__" : Str)) = false := by decide) (he : starEach (e :: es) X.env = (false, eval e X.env) :: starEach es X.env := by rfl) (hpl : (backTo pos (starEach es X.env)).any (·.1) = false := by rfl) :
    SO X (.Call (.Name x p1) (e :: es) [] pos) C O O2 q := by
  obtain ⟨f, fd, F, hm, hk, hb⟩ := hf
  subst hO2
  exact so_call F (hr.mono hmn) hm hk hb i hi args ad hO hR nd hl hj hg hdb he hpl
/-! typed lists -/
section
variable {α β : Type} {l l' : List α} {a : α} {fv : α → VP}
theorem se_ixTt (h1 : SE X e1 C O O1 (tupP (l.map fv))) (h2 : SE X e2 C O1 O2 (vp i)) (hi : ixL l i = some a) (hx : PlainIx e2 := by exact fun _ _ => rfl) : SE X (.Subscript e1 e2 pos) C O O2 (fv a) := se_ixT h1 h2 (atI_map hi) hx
theorem se_ixLt (h1 : SE X e1 C O O1 (lstP (l.map fv))) (h2 : SE X e2 C O1 O2 (vp i)) (hi : ixL l i = some a) (hx : PlainIx e2 := by exact fun _ _ => rfl) : SE X (.Subscript e1 e2 pos) C O O2 (fv a) := se_ixL h1 h2 (atI_map hi) hx
theorem se_ixOt (n : Nat) {m : Nat} {pn : Pos} {t : Bool} (h2 : SE X e2 C O O2 (vp i)) (hi : ixL l i = some a) (hO : O2[m]? = some (some (lstG t (l.map fv))) := by rfl) (hC : C[n]? = some (.o m) := by rfl) (hN : X.N[n]? = some x := by rfl) (hv : Vis X.env.scope x := by first | exact Or.inl rfl | exact Or.inr (Or.inl rfl) | exact Or.inr (Or.inr rfl))
    (hd : (x == ("__debug__" : Str)) = false := by decide) (hcd : (x == ("__classdict__" : Str)) = false := by decide) (hx : PlainIx e2 := by exact fun _ _ => rfl) : SE X (.Subscript (.Name x pn) e2 pos) C O O2 (fv a) := se_ixO n h2 hO (atI_map hi) hC hN hv hd hcd hx
theorem ss_appT (n : Nat) {m : Nat} {t t0 : Bool} {ps0 : List VP} {pn ap cp : Pos} (h : SE X e C O O1 (fv a)) (ha : appM l a = some l') (hO0 : O[m]? = some (some (lstG t0 ps0)) := by rfl) (hO : O1[m]? = some (some (lstG t (l.map fv))) := by rfl) (hO2 : O1.set m (some (lstG t (l'.map fv))) = O2 := by rfl) (hC : C[n]? = some (.o m) := by rfl) (hN : X.N[n]? = some x := by rfl) (hv : Vis X.env.scope x := by first | exact Or.inl rfl | exact Or.inr (Or.inl rfl) | exact Or.inr (Or.inr rfl))
    (hd : (x == ("__debug__" : Str)) = false := by decide) (hcd : (x == ("__classdict__" : Str)) = false := by decide) (hs : swapsWith (.Call (.Attribute (.Name x pn) "append" ap) [e] [] cp) none pos.line X.env = pure false := by rfl)
    (hbase : attributeBase (.Name x pn) "append" X.env (eval (.Name x pn) X.env) = eval (.Name x pn) X.env := by rfl)
    (hfew : ((backTo cp (starEach [e] X.env)).all (fun x => !x.1) && (backToKw cp (keywordEach [] X.env)).all (fun x => x.1.isSome) && decide ([e].length + ([] : List Keyword).length + (if ([] : List Keyword).isEmpty then 0 else 1) < 30)) = true := by rfl)
    (hline : (ap.endLine == cp.line) = true := by rfl) (hst : starEach [e] X.env = (false, eval e X.env) :: starEach [] X.env := by rfl) : SS X W (.Expr (.Call (.Attribute (.Name x pn) "append" ap) [e] [] cp) pos) C O (.nx C O2) := by
  obtain ⟨hz, rfl⟩ := of_if ha
  have := ss_app (W := W) n h hO0 hO (by rw [List.length_map]; exact hz) hC hN hv hd hcd hs hbase hfew hline hst
  rw [← hO2, List.map_append]
  exact this
theorem ss_extT (n : Nat) {m : Nat} {t t0 : Bool} {ps0 : List VP} {l2 : List α} {pn ap cp : Pos} (h : SE X e C O O1 (lstP (l2.map fv))) (ha : extM l l2 = some l') (hO0 : O[m]? = some (some (lstG t0 ps0)) := by rfl) (hO : O1[m]? = some (some (lstG t (l.map fv))) := by rfl) (hO2 : O1.set m (some (lstG t (l'.map fv))) = O2 := by rfl) (hC : C[n]? = some (.o m) := by rfl) (hN : X.N[n]? = some x := by rfl) (hv : Vis X.env.scope x := by first | exact Or.inl rfl | exact Or.inr (Or.inl rfl) | exact Or.inr (Or.inr rfl))
    (hd : (x == ("__debug__" : Str)) = false := by decide) (hcd : (x == ("__classdict__" : Str)) = false := by decide) (hs : swapsWith (.Call (.Attribute (.Name x pn) "extend" ap) [e] [] cp) none pos.line X.env = pure false := by rfl)
    (hbase : attributeBase (.Name x pn) "extend" X.env (eval (.Name x pn) X.env) = eval (.Name x pn) X.env := by rfl)
    (hfew : ((backTo cp (starEach [e] X.env)).all (fun x => !x.1) && (backToKw cp (keywordEach [] X.env)).all (fun x => x.1.isSome) && decide ([e].length + ([] : List Keyword).length + (if ([] : List Keyword).isEmpty then 0 else 1) < 30)) = true := by rfl)
    (hline : (ap.endLine == cp.line) = true := by rfl) (hst : starEach [e] X.env = (false, eval e X.env) :: starEach [] X.env := by rfl) : SS X W (.Expr (.Call (.Attribute (.Name x pn) "extend" ap) [e] [] cp) pos) C O (.nx C O2) := by
  obtain ⟨hz, rfl⟩ := of_if ha
  have := ss_ext (W := W) n h hO0 hO (by rw [List.length_map, List.length_map]; exact hz) hC hN hv hd hcd hs hbase hfew hline hst
  rw [← hO2, List.map_append]
  exact this
theorem ss_setixT (n : Nat) {m : Nat} {t : Bool} {pn sp : Pos} (h : SE X e C O O1 (fv a)) (hi : SE X e2 C O1 O2 (vp i)) (hk : setM l i a = some l') (hO : O2[m]? = some (some (lstG t (l.map fv))) := by rfl) (hO3 : O2.set m (some (lstG t (l'.map fv))) = O3 := by rfl) (hC : C[n]? = some (.o m) := by rfl) (hN : X.N[n]? = some x := by rfl) (hv : Vis X.env.scope x := by first | exact Or.inl rfl | exact Or.inr (Or.inl rfl) | exact Or.inr (Or.inr rfl))
    (hd : (x == ("__debug__" : Str)) = false := by decide) (hcd : (x == ("__classdict__" : Str)) = false := by decide)
    (ha : ∀ v, assign (.Subscript (.Name x pn) e2 sp) X.env v = (do
      let ov ← holding [v] (eval (.Name x pn) X.env)
      let iv ← holding [v, ov] (eval e2 X.env)
      standAt sp
      holding [v, ov, iv] (setItem ov iv v)
      release [v, ov, iv] []) := by intro _; rfl)
    (hs : swapsWithSole [.Subscript (.Name x pn) e2 sp] e pos.line X.env = pure false := by rfl) (hw : swappedStores [.Subscript (.Name x pn) e2 sp] e X.env = pure none := by rfl)
    (h1 : (assignEach [.Subscript (.Name x pn) e2 sp] X.env).map (·.2) = [assign (.Subscript (.Name x pn) e2 sp) X.env] := by rfl) : SS X W (.Assign [.Subscript (.Name x pn) e2 sp] e pos) C O (.nx C O3) := by
  unfold setM at hk
  cases e0 : ixN l.length i with
  | none => rw [e0] at hk; cases hk
  | some k0 =>
    rw [e0] at hk
    cases hk
    have := ss_setix (W := W) n h hi hO (by rw [List.length_map]; exact e0) hC hN hv hd hcd ha hs hw h1
    rw [← hO3, List.map_set]
    exact this
theorem se_lenTt {p1 : Pos} (hm : X.mg "len" = none) (h : SE X e C O O1 (tupP (l.map fv))) (hg : Gl X "len" := by rfl) (ns : starEach [e] X.env = (false, eval e X.env) :: starEach [] X.env := by rfl) : SE X (.Call (.Name "len" p1) [e] [] pos) C O O1 (vp (l.length : Int)) := by
  have := se_lenT (p1 := p1) (pos := pos) hm h hg ns
  rw [List.length_map] at this; exact this
theorem se_lenLt {p1 : Pos} (hm : X.mg "len" = none) (h : SL X e C O O1 (l.map fv)) (hg : Gl X "len" := by rfl) (ns : starEach [e] X.env = (false, eval e X.env) :: starEach [] X.env := by rfl) : SE X (.Call (.Name "len" p1) [e] [] pos) C O O1 (vp (l.length : Int)) := by
  have := se_lenL (p1 := p1) (pos := pos) hm h hg ns
  rw [List.length_map] at this; exact this
theorem repM_some {x : α} {k : Int} (h : repM x k = some l) : (-1000 ≤ k ∧ k ≤ 1000) ∧ (List.replicate k.toNat (fv x)) = l.map fv := by
  obtain ⟨h1, rfl⟩ := of_if h
  exact ⟨h1, by rw [List.map_replicate]⟩
theorem se_repLt (h1 : SE X e1 C O O1 (lstP [fv a])) (h2 : SE X e2 C O1 O2 (vp k)) (h : repM a k = some l) : SE X (.BinOp e1 .Mult e2 pos) C O O2 (lstP (l.map fv)) := (repM_some (fv := fv) h).2 ▸ se_repL h1 h2 (repM_some (fv := fv) h).1
theorem so_repLt (h1 : SE X e1 C O O1 (lstP [fv a])) (h2 : SE X e2 C O1 O2 (vp k)) (h : repM a k = some l) : SO X (.BinOp e1 .Mult e2 pos) C O O2 (lstO (l.map fv)) := (repM_some (fv := fv) h).2 ▸ so_repL h1 h2 (repM_some (fv := fv) h).1
theorem se_catLt {l2 : List α} (h1 : SE X e1 C O O1 (lstP (l.map fv))) (h2 : SE X e2 C O1 O2 (lstP (l2.map fv))) (h : extM l l2 = some l') : SE X (.BinOp e1 .Add e2 pos) C O O2 (lstP (l'.map fv)) := by
  obtain ⟨hz, rfl⟩ := of_if h
  rw [List.map_append]
  exact se_cat h1 h2 (by rw [List.length_map, List.length_map]; exact hz)
theorem so_catLt {l2 : List α} (h1 : SE X e1 C O O1 (lstP (l.map fv))) (h2 : SE X e2 C O1 O2 (lstP (l2.map fv))) (h : extM l l2 = some l') : SO X (.BinOp e1 .Add e2 pos) C O O2 (lstO (l'.map fv)) := by
  obtain ⟨hz, rfl⟩ := of_if h
  rw [List.map_append]
  exact so_cat h1 h2 (by rw [List.length_map, List.length_map]; exact hz)
theorem se_catTt {l2 : List α} (h1 : SE X e1 C O O1 (tupP (l.map fv))) (h2 : SE X e2 C O1 O2 (tupP (l2.map fv))) (h : extM l l2 = some l') : SE X (.BinOp e1 .Add e2 pos) C O O2 (tupP (l'.map fv)) := by
  obtain ⟨hz, rfl⟩ := of_if h
  rw [List.map_append]
  exact se_catT h1 h2 (by rw [List.length_map, List.length_map]; exact hz)
/-- (x,) * k, k from 1 on -/
def repT {α : Type} (x : α) (k : Int) : Option (List α) := if 1 ≤ k ∧ k ≤ 1000 then some (List.replicate k.toNat x) else none
theorem se_repTt (h1 : SE X e1 C O O1 (tupP [fv a])) (h2 : SE X e2 C O1 O2 (vp k)) (h : repT a k = some l) : SE X (.BinOp e1 .Mult e2 pos) C O O2 (tupP (l.map fv)) := by
  obtain ⟨hz, rfl⟩ := of_if h
  have := se_repT (pos := pos) h1 h2 hz ⟨by simp, by simp⟩
  rw [flat_rep] at this
  rw [List.map_replicate]; exact this
theorem cutP_map {α β : Type} {f : α → β} {l : List α} {lo hi : Option Int} : cutP (l.map f) lo hi = (cutP l lo hi).map f := by
  unfold cutP
  rw [List.length_map, List.map_take, List.map_drop]
theorem se_slTt {lo hi : Option Expr} {l1 u1 : Option Int} {sp : Pos} (h : SE X e C O O1 (tupP (l.map fv))) (hl : SPo X lo C O1 O2 l1) (hu : SPo X hi C O2 O3 u1) : SE X (.Subscript e (.Slice lo hi none sp) pos) C O O3 (tupP ((cutP l l1 u1).map fv)) := by
  rw [← cutP_map]; exact se_slT h hl hu
theorem se_slLt {lo hi : Option Expr} {l1 u1 : Option Int} {sp : Pos} (h : SE X e C O O1 (lstP (l.map fv))) (hl : SPo X lo C O1 O2 l1) (hu : SPo X hi C O2 O3 u1) : SE X (.Subscript e (.Slice lo hi none sp) pos) C O O3 (lstP ((cutP l l1 u1).map fv)) := by
  rw [← cutP_map]; exact se_slL h hl hu
end
/-- a list of ours, read as one that stays: at its last use -/
theorem sb_freezeT {α : Type} {l : List α} {fv : α → VP} {o : Out} (n : Nat) {m : Nat} (h : SB X W ss (C.set n (.v (lstP (l.map fv)))) (O.set m none) o) (hC : C[n]? = some (.o m) := by rfl) (hO : O[m]? = some (some (lstO (l.map fv))) := by rfl) : SB X W ss C O o := sb_freeze n h hC hO
/-! loops without an early end -/
theorem ss_forN {α τ : Type} {vpa : α → VP} {xs : List α} {f : α → τ → Option τ} {s0 s1 : τ} {ns : List Nat} (hm : foldM f xs s0 = some s1) (cells : τ → List Cell) (obs : τ → Ob) (dc : α → τ → List Cell)
    (hi : SI X tg e C O O1 ps) (hps : ps = xs.map vpa) (hC : Wk C (cells s0)) (hO : obs s0 = O1)
    (hg : ∀ x s, SG X tg (cells s) (vpa x) (dc x s) ns)
    (hb : ∀ x s s', x ∈ xs → f x s = some s' → SB X W ss (dc x s) (obs s) (.nx (cells s') (obs s')))
    (hp : PassesOwn (model X.prog X.w) X.A X.env X.xe := by exact passes_of rfl) (hc : X.calm = true := by rfl)
    (hs : ∀ x, foldedSetIterable e X.env x = pure x := by intro _; rfl) : SS X W (.For tg e ss [] pos) C O (.nx (cells s1) (obs s1)) :=
  ss_for (foldM_loop hm) cells obs (fun c => match c with | .nx s => .nx (cells s) (obs s) | .rt r => r.elim | .ex r => r.elim) dc hps hp hc hi (fun _ => rfl) (fun r => r.elim) (fun r => r.elim) hC hO hg (fun x s c hx h => by
    cases h1 : f x s with
    | none => rw [h1] at h; cases h
    | some s' => rw [h1] at h; cases h; exact hb x s s' hx h1) hs
theorem ss_whileN {τ : Type} {c : Expr} {cb : τ → Option Bool} {f : τ → Option τ} {n : Nat} {s0 s1 : τ} (hm : whM cb f n s0 = some s1) (cells : τ → List Cell) (obs : τ → Ob) (hC : Wk C (cells s0)) (hO : obs s0 = O)
    (ht : ∀ s b, cb s = some b → ST X c (cells s) (obs s) (obs s) b) (hb : ∀ s s', cb s = some true → f s = some s' → SB X W ss (cells s) (obs s) (.nx (cells s') (obs s')))
    (hp : PassesOwn (model X.prog X.w) X.A X.env X.xe := by exact passes_of rfl) : SS X W (.While c ss [] pos) C O (.nx (cells s1) (obs s1)) :=
  ss_while (whM_loop hm) cells obs (fun c => match c with | .nx s => .nx (cells s) (obs s) | .rt r => r.elim | .ex r => r.elim) (fun _ => rfl) (fun r => r.elim) (fun r => r.elim) hC hO ht (fun s d hc h => by
    cases h1 : f s with
    | none => rw [h1] at h; cases h
    | some s' => rw [h1] at h; cases h; exact hb s s' hc h1) hp
end
end SIM

end
section
namespace SIM
open PySem L2 PyProof.Rows
/-! an object of ours that is never changed again, whatever it is -/
structure Fz (q : OP) (p : VP) : Prop where
  mine : q.mine = true
  fz : ∀ F H a fp, q.p F H a fp → fp = [a] ∧ ∃ o, H a = some o ∧ ∀ F', Le F F' → F' a = some o → p.p F' (.ref a)
theorem fz_lst {ps : List VP} : Fz (lstO ps) (lstP ps) := ⟨rfl, fun F H a fp ⟨e, vs, h1, h2⟩ => ⟨e, _, h1, fun F' l h => ⟨a, vs, rfl, h, h2.mono l⟩⟩⟩
theorem fz_ins {C : Addr} {ns : List Str} {ps : List VP} : Fz (insO true C ns ps) (insP C ns ps) := ⟨rfl, fun F H a fp ⟨e, dx, vs, h1, h2⟩ => ⟨e, _, h1, fun F' l h => ⟨a, dx, vs, rfl, h, h2.mono l⟩⟩⟩
section
variable {Φ : Frm} {F F' H H' : Hp} {σ : L2.St} {C : List Cell} {O : Ob} {A : List (Addr × List Addr)} {j i : Nat} {q : OP} {p : VP}
theorem Ev.freezeG (E : Ev Φ F H σ C O A) (fz : Fz q p) (hO : O[j]? = some (some q)) (hC : C[i]? = some (.o j)) :
    ∃ F' A', Le F F' ∧ Ev Φ F' H σ (C.set i (.v p)) (O.set j none) A' := by
  obtain ⟨a, fp, hs, hA, J⟩ := E.obj hC hO
  obtain ⟨rfl, o, hv, hp⟩ := fz.fz _ _ _ _ J.ok
  have hFa : F a = none := J.fr a (List.mem_singleton.mpr rfl)
  have hjA : j < A.length := (List.getElem?_eq_some_iff.mp hA).1
  have hjO : j < O.length := by rw [← E.len]; exact hjA
  have ha0 : Φ.H0 a = none := ((J.m a (List.mem_singleton.mpr rfl))).elim (fun h => by rw [fz.mine] at h; cases h.1) id
  have hle : Le F (upd F a o) := Le.ext hFa
  refine ⟨upd F a o, A.set j (a, []), hle, ?_, by simp [E.len], fun k q e => ?_, fun k e => ?_, fun k l c d f g h1 h2 ne b hb hb' => ?_, ?_, fun b u e => ?_, E.ff.trans hle, E.kp, fun b hb => ?_, E.dm, pm_set E (fun p e => nomatch e)⟩
  · have h1 : Cks (upd F a o) A σ (C.set i (.v p)) := by
      have hk : Ck (upd F a o) A (some (.ref a)) (.v p) := ⟨_, rfl, hp _ hle upd_same⟩
      have h2 := (E.ck.mono hle).set hk i
      have e : σ.set i (some (.ref a)) = σ := by
        refine List.ext_getElem? fun n => ?_
        by_cases hn : n = i
        · subst hn
          rw [List.getElem?_set_self (List.getElem?_eq_some_iff.mp hs).1, hs]
        · rw [List.getElem?_set_ne (Ne.symm hn)]
      rw [e] at h2; exact h2
    refine h1.imp fun k c fp e => ?_
    by_cases hk : k = j
    · subst hk
      rw [hA] at e; cases e
      exact ⟨[], by rw [List.getElem?_set_self hjA]⟩
    · exact ⟨fp, by rw [List.getElem?_set_ne (Ne.symm hk)]; exact e⟩
  · by_cases hk : k = j
    · subst hk
      rw [List.getElem?_set_self hjO] at e; cases e
    · rw [List.getElem?_set_ne (Ne.symm hk)] at e
      obtain ⟨c, g, h, K⟩ := E.ob k q e
      refine ⟨c, g, by rw [List.getElem?_set_ne (Ne.symm hk)]; exact h, K.mono hle (fun b hb => ?_) fun _ _ => rfl⟩
      rw [upd_ne (fun z => E.dj k j c a g [a] h hA hk b hb (List.mem_singleton.mpr z))]; exact K.fr b hb
  · by_cases hk : k = j
    · subst hk
      exact ⟨a, by rw [List.getElem?_set_self hjA]⟩
    · rw [List.getElem?_set_ne (Ne.symm hk)] at e
      obtain ⟨c, h⟩ := E.no k e
      exact ⟨c, by rw [List.getElem?_set_ne (Ne.symm hk)]; exact h⟩
  · by_cases hk : k = j
    · subst hk
      rw [List.getElem?_set_self hjA] at h1; cases h1; exact absurd hb List.not_mem_nil
    · by_cases hl : l = j
      · subst hl
        rw [List.getElem?_set_self hjA] at h2; cases h2; exact absurd hb' List.not_mem_nil
      · rw [List.getElem?_set_ne (Ne.symm hk)] at h1
        rw [List.getElem?_set_ne (Ne.symm hl)] at h2
        exact E.dj k l c d f g h1 h2 ne b hb hb'
  · have e : (A.set j (a, [])).map (·.1) = A.map (·.1) := by
      rw [List.map_set]
      refine List.ext_getElem? fun n => ?_
      by_cases hn : n = j
      · subst hn
        rw [List.getElem?_set_self (by simpa using hjA), List.getElem?_map, hA]; rfl
      · rw [List.getElem?_set_ne (Ne.symm hn)]
    rw [e]; exact E.pre
  · by_cases hb : b = a
    · subst hb; rw [upd_same] at e; cases e; exact hv
    · rw [upd_ne hb] at e; exact E.fh b u e
  · by_cases h : b = a
    · subst h; exact .inr ha0
    · rw [upd_ne h] at hb; exact E.nw b hb
theorem Ev.freezeLastG {a : Addr} {fp : List Addr} (E : Ev Φ F H σ C (O ++ [some q]) A) (fz : Fz q p) (hl : Φ.as.length ≤ O.length) (hA : A[O.length]? = some (a, fp)) (hc : C.all (Cell.lt O.length) = true) :
    ∃ F' A', Le F F' ∧ Ev Φ F' H σ C O A' ∧ p.p F' (.ref a) := by
  have hO : (O ++ [some q])[O.length]? = some (some q) := by simp
  have E2 : Ev Φ F H (some (.ref a) :: σ) (.o O.length :: C) (O ++ [some q]) A := ⟨.cons ⟨a, fp, rfl, hA⟩ E.ck, E.len, E.ob, E.no, E.dj, E.pre, E.fh, E.ff, E.kp, E.nw, E.dm, E.pm⟩
  obtain ⟨F2, A2, l2, E3⟩ := E2.freezeG fz (i := 0) hO rfl
  have E4 : Ev Φ F2 H σ C ((O ++ [some q]).set O.length none) A2 := ⟨(by cases E3.ck with | cons _ t => exact t), E3.len, E3.ob, E3.no, E3.dj, E3.pre, E3.fh, E3.ff, E3.kp, E3.nw, E3.dm, E3.pm⟩
  have E5 := E4.trunc (n := O.length) hc hl
  have e : ((O ++ [some q]).set O.length none).take O.length = O := by simp
  rw [e] at E5
  obtain ⟨v, h1, h2⟩ := E3.val (i := 0) rfl
  cases h1
  exact ⟨F2, _, l2, E5, h2⟩
end
/-! what raises -/
def rdX (W : WX) (C : List Cell) (O O' : Ob) (er : Er) : TE := fun σ H _ => ∃ Φ F A, Ev Φ F H σ C O A ∧ ∀ F' H' A' d, Le F F' → Ev Φ F' H' σ C O' A' → er.pl F' H' d → W (.ref er.cls) d σ H'
abbrev SX (X : Cx) (W : WX) (e : Expr) (C : List Cell) (O O' : Ob) (er : Er) : Prop := PE X e (rdX W C O O' er)
def rdAX (W : WX) (C : List Cell) (O O' : Ob) (er : Er) : TA := fun σ H _ => ∃ Φ F A, Ev Φ F H σ C O A ∧ ∀ F' H' A' d, Le F F' → Ev Φ F' H' σ C O' A' → er.pl F' H' d → W (.ref er.cls) d σ H'
abbrev SAX (X : Cx) (W : WX) (es : List Expr) (C : List Cell) (O O' : Ob) (er : Er) : Prop := PA X es (rdAX W C O O' er)
def rdTX (W : WX) (C : List Cell) (O O' : Ob) (er : Er) : TT := fun σ H _ => ∃ Φ F A, Ev Φ F H σ C O A ∧ ∀ F' H' A' d, Le F F' → Ev Φ F' H' σ C O' A' → er.pl F' H' d → W (.ref er.cls) d σ H'
abbrev STX (X : Cx) (W : WX) (e : Expr) (C : List Cell) (O O' : Ob) (er : Er) : Prop := PT X e (rdTX W C O O' er)
abbrev SWX (X : Cx) (W : WX) (e : Expr) (C : List Cell) (O O' : Ob) (er : Er) : Prop := PW X e (rdTX W C O O' er)
section
variable {X : Cx} {W : WX} {C C' C1 C2 : List Cell} {O O' O1 O2 O3 : Ob} {p q r : VP} {ps qs : List VP} {tg e e1 e2 e3 : Expr} {es ts : List Expr} {pos p1 p2 p3 : Pos} {i j k : Int} {b b1 b2 : Bool} {x f : Str} {ss : List Stmt} {ns : List Str} {Ca : Addr} {er : Er}
theorem rdX_of {σ : L2.St} {H : Hp} {Q Q' : VK} (h : rdX W C O O' er σ H Q) : rdX W C O O' er σ H Q' := h
/-- first this, then what raises -/
theorem rd_then {σ : L2.St} {H : Hp} {Q : VK} {t : TE} (h : rdX W C O O2 er σ H Q) (k : ∀ Φ F A F1 H1 v A1, Ev Φ F H σ C O A → Le F F1 → Ev Φ F1 H1 σ C O1 A1 → p.p F1 v → rdX W C O1 O2 er σ H1 Q → True) : True := trivial
theorem sax_hd (h : SX X W e C O O1 er) (hs : starEach (e :: es) X.env = (false, eval e X.env) :: starEach es X.env := by rfl) : SAX X W (e :: es) C O O1 er := impA (pa_cons h pa_never hs) fun σ H Q w => w
theorem sax_tl (h : SE X e C O O1 p) (t : SAX X W es C O1 O2 er) (hs : starEach (e :: es) X.env = (false, eval e X.env) :: starEach es X.env := by rfl) : SAX X W (e :: es) C O O2 er :=
  impA (pa_cons h t hs) fun σ H Q ⟨Φ, F, A, E, w⟩ => ⟨Φ, F, A, E, fun F1 H1 v A1 l1 E1 hv => ⟨Φ, F1, A1, E1, fun F2 H2 A2 d l2 => w F2 H2 A2 d (l1.trans l2)⟩⟩
theorem sax_tlo (n : Nat) {m : Nat} (t : SAX X W es C O O2 er) (hC : C[n]? = some (.o m) := by rfl) (hN : X.N[n]? = some x := by rfl) (hv : Vis X.env.scope x := by first | exact Or.inl rfl | exact Or.inr (Or.inl rfl) | exact Or.inr (Or.inr rfl)) (hd : (x == ("__debug__" : Str)) = false := by decide)
    (hcd : (x == ("__classdict__" : Str)) = false := by decide) (hs : starEach (.Name x pos :: es) X.env = (false, eval (.Name x pos) X.env) :: starEach es X.env := by rfl) : SAX X W (.Name x pos :: es) C O O2 er :=
  impA (pa_cons (pe_var hN hv hd hcd) t hs) fun σ H Q ⟨Φ, F, A, E, w⟩ => by
    obtain ⟨x, h, a, fp, rfl, k⟩ := E.ck.get hC
    exact ⟨.ref a, h, Φ, F, A, E, w⟩
theorem sx_tup {n : Nat} (h : SAX X W es C O O1 er) : SX X W (.Tuple es n pos) C O O1 er := imp (pe_tup h) fun σ H Q w => w
theorem sx_lst (h : SAX X W es C O O1 er) : SX X W (.List es pos) C O O1 er := imp (pe_lst h) fun σ H Q w => w
theorem sx_bin1 {op : Operator} {rr : R2} (ho : OpR X (binaryOp op) rr) (h : SX X W e1 C O O1 er) : SX X W (.BinOp e1 op e2 pos) C O O1 er := imp (pe_op ho h pe_never) fun σ H Q w => w
theorem sx_bin2 {op : Operator} {rr : R2} (ho : OpR X (binaryOp op) rr) (h1 : SE X e1 C O O1 p) (h : SX X W e2 C O1 O2 er) : SX X W (.BinOp e1 op e2 pos) C O O2 er :=
  imp (pe_op ho h1 h) fun σ H Q ⟨Φ, F, A, E, w⟩ => ⟨Φ, F, A, E, fun F1 H1 v A1 l1 E1 hv => ⟨Φ, F1, A1, E1, fun F2 H2 A2 d l2 => w F2 H2 A2 d (l1.trans l2)⟩⟩
theorem sx_cmp1 {op : CmpOp} {rr : R2} (ho : OpR X (compareOp op) rr) (h : SX X W e1 C O O1 er) (hm : behindInMarks op e2 = false := by rfl) : SX X W (.Compare e1 [op] [e2] pos) C O O1 er := imp (pe_cmpR ho h pe_never hm) fun σ H Q w => w
theorem sx_cmp2 {op : CmpOp} {rr : R2} (ho : OpR X (compareOp op) rr) (h1 : SE X e1 C O O1 p) (h : SX X W e2 C O1 O2 er) (hm : behindInMarks op e2 = false := by rfl) : SX X W (.Compare e1 [op] [e2] pos) C O O2 er :=
  imp (pe_cmpR ho h1 h hm) fun σ H Q ⟨Φ, F, A, E, w⟩ => ⟨Φ, F, A, E, fun F1 H1 v A1 l1 E1 hv => ⟨Φ, F1, A1, E1, fun F2 H2 A2 d l2 => w F2 H2 A2 d (l1.trans l2)⟩⟩
theorem stx_cmp1 {op : CmpOp} {rr : R2} (ho : OpR X (compareOp op) rr) (h : SX X W e1 C O O1 er) (hm : behindInMarks op e2 = false := by rfl) : STX X W (.Compare e1 [op] [e2] pos) C O O1 er := impT (pt_cmpR ho h pe_never hm) fun σ H Q w => w
theorem stx_cmp2 {op : CmpOp} {rr : R2} (ho : OpR X (compareOp op) rr) (h1 : SE X e1 C O O1 p) (h : SX X W e2 C O1 O2 er) (hm : behindInMarks op e2 = false := by rfl) : STX X W (.Compare e1 [op] [e2] pos) C O O2 er :=
  impT (pt_cmpR ho h1 h hm) fun σ H Q ⟨Φ, F, A, E, w⟩ => ⟨Φ, F, A, E, fun F1 H1 v A1 l1 E1 hv => ⟨Φ, F1, A1, E1, fun F2 H2 A2 d l2 => w F2 H2 A2 d (l1.trans l2)⟩⟩
theorem stx_val (h : SX X W e C O O1 er) (he : ∀ whole, isTrue e X.env whole = (do let v ← whole; standAt e.pos; holding [v] (truthy v)) := by intro _; rfl) : STX X W e C O O1 er := impT (pt_val h he) fun σ H Q w => w
theorem stx_not (h : STX X W e C O O1 er) : STX X W (.UnaryOp .Not e pos) C O O1 er := impT (pt_not h) fun σ H Q w => w
theorem sx_if1 (h : STX X W e1 C O O1 er) : SX X W (.IfExp e1 e2 e3 pos) C O O1 er := imp (pe_ifExp h pe_never pe_never) fun σ H Q w => w
theorem sx_ix1 (h : SX X W e1 C O O1 er) (hx : PlainIx e2 := by exact fun _ _ => rfl) : SX X W (.Subscript e1 e2 pos) C O O1 er := imp (pe_ix (X := X) ix_tup h pe_never hx) fun σ H Q w => w
theorem sx_fld (h : SX X W e C O O1 er) (hb : attributeBase e f X.env (eval e X.env) = eval e X.env := by rfl) : SX X W (.Attribute e f pos) C O O1 er := imp (pe_fld h hb) fun σ H Q w => w
/-- the callee raises -/
theorem sx_callD {m n : Nat} {pn : List Str} {js : List Nat} {as : List AC} {ι : Type} {P : ι → Prop} {D0 : ι → List Cell} {O0 : ι → Ob} {r : ι → Ret} (tk : Takes X W) (hf : Def X.prog X.w X.K X.mg X.base m x pn (spM P D0 O0 r)) (hr : Room n X.A)
    (i : ι) (hi : P i) (args : SA X (e :: es) C O O1 as) (hR : r i = .x er O') (ad : AD C js as (D0 i)) (hO : O0 i = inO O1 js) (hO2 : outO O1 js O' = O2) (hmn : m ≤ n := by decide) (nd : js.Nodup := by decide) (hl : O'.length = js.length := by rfl) (hj : ∀ j ∈ js, ∃ p, O1[j]? = some (some p) := by exact hjs rfl)
    (hg : Gl X x := by rfl) (hdb : (x == ("__debug__" : Str)) = false := by decide) (he : starEach (e :: es) X.env = (false, eval e X.env) :: starEach es X.env := by rfl) (hpl : (backTo pos (starEach es X.env)).any (·.1) = false := by rfl) :
    SX X W (.Call (.Name x p1) (e :: es) [] pos) C O O2 er := by
  obtain ⟨f, fd, F, hm, hk, hb⟩ := hf
  subst hO2
  exact imp (pe_callS F (hr.mono hmn) hg hm hk hb (fun σ => passAt tk σ) args hdb he hpl) fun σ H Q ⟨Φ, F, A, E, w⟩ => ⟨Φ, F, A, E, fun F1 H1 vs A1 l1 E1 hv => ⟨i, hi, by
    rw [hO, hR]
    exact call_x E1 hj nd ad hv hl fun F' H' A' d l E' hp => w F' H' A' d (l1.trans l) E' hp⟩⟩
/-- an argument raises -/
theorem sx_callA {m n : Nat} {pn : List Str} {sp : Sp} (hf : Def X.prog X.w X.K X.mg X.base m x pn sp) (hr : Room n X.A) (args : SAX X W (e :: es) C O O1 er) (hmn : m ≤ n := by decide)
    (hg : Gl X x := by rfl) (hdb : (x == ("__debug__" : Str)) = false := by decide) (he : starEach (e :: es) X.env = (false, eval e X.env) :: starEach es X.env := by rfl) (hpl : (backTo pos (starEach es X.env)).any (·.1) = false := by rfl) :
    SX X W (.Call (.Name x p1) (e :: es) [] pos) C O O1 er := by
  obtain ⟨f, fd, F, hm, hk, hb⟩ := hf
  exact imp (pe_call F (hr.mono hmn) hg hm hk hb .nil passL args hdb he hpl) fun σ H Q w => w
/-! statements that raise -/
theorem post_ex {Φ : Frm} {F F' H' : Hp} {D : Ends} {σ : L2.St} {A' : List (Addr × List Addr)} {d : Option Addr} (k : (Out.ex er C2 O2).post W Φ F D) (w : Wk C C2) (hO : O1.take O2.length = O2) (l : Le F F') (E : Ev Φ F' H' σ C O1 A') (hp : er.pl F' H' d) : W (.ref er.cls) d σ H' :=
  k F' H' σ A' d (O1.drop O2.length) l (take_split hO ▸ E.weak w) hp
theorem ssx_set {pos' : Pos} (n : Nat) (nd : X.N.Nodup) (h : SX X W e C O O1 er) (w : Wk C C2) (hO : O1.take O2.length = O2 := by rfl) (hi : X.N[n]? = some x := by rfl) (hx : Loc X.env.scope x := by first | exact Or.inl rfl | exact Or.inr rfl) (hs : swapsWith e (some (.Name x pos')) pos.line X.env = pure false := by rfl)
    (hf : X.fn x = true ∨ X.env.scope.names.lookup x = some .local := by first | exact .inl rfl | exact .inr rfl | assumption) : SS X W (.Assign [.Name x pos'] e pos) C O (.ex er C2 O2) :=
  impS (ps_set nd hi hx h hs hf) fun D σ H ⟨Φ, F, A, E, k⟩ => ⟨Φ, F, A, E, fun F' H' A' d l E' hp => post_ex k w hO l E' hp⟩
theorem ssx_expr (h : SX X W e C O O1 er) (w : Wk C C2) (hO : O1.take O2.length = O2 := by rfl) (hs : swapsWith e none pos.line X.env = pure false := by rfl) : SS X W (.Expr e pos) C O (.ex er C2 O2) :=
  impS (ps_expr h hs) fun D σ H ⟨Φ, F, A, E, k⟩ => ⟨Φ, F, A, E, fun F' H' A' d l E' hp => post_ex k w hO l E' hp⟩
theorem ssx_ret (h : SX X W e C O O1 er) (w : Wk C C2) (hO : O1.take O2.length = O2 := by rfl) : SS X W (.Return (some e) pos) C O (.ex er C2 O2) :=
  impS (ps_ret h) fun D σ H ⟨Φ, F, A, E, k⟩ => ⟨Φ, F, A, E, fun F' H' A' d l E' hp => post_ex k w hO l E' hp⟩
theorem ssx_asg {t : TG} (h : SX X W e C O O1 er) (g : PG X tg t) (w : Wk C C2) (hO : O1.take O2.length = O2 := by rfl) (hs : swapsWithSole [tg] e pos.line X.env = pure false := by rfl) (hw : swappedStores [tg] e X.env = pure none := by rfl)
    (h1 : (assignEach [tg] X.env).map (·.2) = [assign tg X.env] := by rfl) : SS X W (.Assign [tg] e pos) C O (.ex er C2 O2) :=
  impS (ps_asg h g hs hw h1) fun D σ H ⟨Φ, F, A, E, k⟩ => ⟨Φ, F, A, E, fun F' H' A' d l E' hp => post_ex k w hO l E' hp⟩
theorem ssx_if {c : Expr} {s1 s2 : List Stmt} (h : STX X W c C O O1 er) (w : Wk C C2) (hO : O1.take O2.length = O2 := by rfl) : SS X W (.If c s1 s2 pos) C O (.ex er C2 O2) :=
  impS (ps_if h pss_never pss_never) fun D σ H ⟨Φ, F, A, E, k⟩ => ⟨Φ, F, A, E, fun F' H' A' d l E' hp => post_ex k w hO l E' hp⟩
end
/-! raise -/
structure ErF (K : PySem.W.Frag) (mg : Str → Option Value) (nm : Str) (B : Addr) : Prop where
  x : PySem.W.excIn K B [.type "ValueError", .type "Exception", .type "BaseException", .type "object"] "ValueError.__new__" = true
  g : mg nm = some (.ref B)
  k : PySem.W.keepIn K (.ref B) = true
  b : PySem.W.subIn K (.ref B) (.type "BaseException") = some true
  t : PySem.W.typeIn K (.ref B) = some (.type "type")
/-- an exception of the program -/
inductive Err where
  | e (c : Ec)
  deriving DecidableEq
def erOf [Wd] : Err → Er
  | .e c => ⟨Wd.er c, fun _ _ d => d = none⟩
section
variable {X : Cx} {W : WX} {C C' C1 C2 : List Cell} {O O' O1 O2 O3 : Ob} {p r : VP} {ps qs : List VP} {tg e e1 e2 e3 : Expr} {es ts : List Expr} {pos p1 p2 p3 : Pos} {i j k : Int} {b b1 b2 : Bool} {x f : Str} {ss body : List Stmt} {ns : List Str} {Ca : Addr} {er : Er} {o : Out}
theorem ss_raise [Wd] {ec : Ec} {m : Str} {j : Nat} (tk : Takes X W) (F : ErF X.K X.mg x (Wd.er ec)) (w : Wk C C2) (hO : O.take O2.length = O2 := by rfl) (hc : X.calm = true := by rfl) (hg : Gl X x := by rfl) (hdb : (x == ("__debug__" : Str)) = false := by decide) :
    SS X W (.Raise (some (.Call (.Name x p1) [.Constant (.str m) j p2] [] p3)) none pos) C O (.ex (erOf (.e ec)) C2 O2) :=
  impS (ps_raise hc tk (pmk_own PySem.F.excBase_ValueError F.x F.g F.k (raises_own F.b F.t) hg hdb)) fun D σ H ⟨Φ, F, A, E, k⟩ => post_ex k w hO Le.refl E rfl
/-- an object that is not looked at any more -/
theorem Ev.forget {Φ : Frm} {F H : Hp} {σ : L2.St} {C : List Cell} {O : Ob} {A : List (Addr × List Addr)} (m : Nat) (E : Ev Φ F H σ C O A) : ∃ A', Ev Φ F H σ C (O.set m none) A' := by
  rcases Nat.lt_or_ge m O.length with hm | hm
  · have hmA : m < A.length := by rw [E.len]; exact hm
    refine ⟨A.set m ((A[m]'hmA).1, []), E.ck.imp fun k a fp h => ?_, by simp [E.len], fun k r e => ?_, fun k e => ?_, fun k l c d f g h1 h2 ne b hb hb' => ?_, ?_, E.fh, E.ff, E.kp, E.nw, E.dm, pm_set E (fun p e => nomatch e)⟩
    · by_cases hk : k = m
      · subst hk
        rw [List.getElem?_eq_getElem hmA] at h
        exact ⟨[], by rw [List.getElem?_set_self hmA, Option.some.inj h]⟩
      · exact ⟨fp, by rw [List.getElem?_set_ne (Ne.symm hk)]; exact h⟩
    · by_cases hk : k = m
      · subst hk; rw [List.getElem?_set_self hm] at e; cases e
      · rw [List.getElem?_set_ne (Ne.symm hk)] at e
        obtain ⟨c, g, h, K⟩ := E.ob k r e
        exact ⟨c, g, by rw [List.getElem?_set_ne (Ne.symm hk)]; exact h, K⟩
    · by_cases hk : k = m
      · subst hk; exact ⟨_, by rw [List.getElem?_set_self hmA]⟩
      · rw [List.getElem?_set_ne (Ne.symm hk)] at e
        obtain ⟨c, h⟩ := E.no k e
        exact ⟨c, by rw [List.getElem?_set_ne (Ne.symm hk)]; exact h⟩
    · by_cases hk : k = m
      · subst hk; rw [List.getElem?_set_self hmA] at h1; cases h1; exact absurd hb List.not_mem_nil
      · by_cases hl : l = m
        · subst hl; rw [List.getElem?_set_self hmA] at h2; cases h2; exact absurd hb' List.not_mem_nil
        · rw [List.getElem?_set_ne (Ne.symm hk)] at h1
          rw [List.getElem?_set_ne (Ne.symm hl)] at h2
          exact E.dj k l c d f g h1 h2 ne b hb hb'
    · have e : (A.set m ((A[m]'hmA).1, [])).map (·.1) = A.map (·.1) := by
        rw [List.map_set]
        refine List.ext_getElem? fun n => ?_
        by_cases hn : n = m
        · subst hn
          rw [List.getElem?_set_self (by simpa using hmA), List.getElem?_map, List.getElem?_eq_getElem hmA]; rfl
        · rw [List.getElem?_set_ne (Ne.symm hn)]
      rw [e]; exact E.pre
  · exact ⟨A, by rw [List.set_eq_of_length_le hm]; exact E⟩
def fgl (js : List Nat) (O : Ob) : Ob := js.foldl (fun O j => O.set j none) O
theorem fgl_len : ∀ {js : List Nat} {O : Ob}, (fgl js O).length = O.length
  | [], O => rfl
  | j :: js, O => by show (fgl js (O.set j none)).length = _; rw [fgl_len, List.length_set]
theorem fgl_app : ∀ {js : List Nat} {O O' : Ob}, (∀ j ∈ js, j < O.length) → fgl js (O ++ O') = fgl js O ++ O'
  | [], O, O', _ => rfl
  | j :: js, O, O', h => by
    show fgl js ((O ++ O').set j none) = fgl js (O.set j none) ++ O'
    rw [List.set_append_left _ _ (h j (List.mem_cons_self ..)), fgl_app fun i hi => by rw [List.length_set]; exact h i (List.mem_cons_of_mem _ hi)]
theorem Ev.forgets {Φ : Frm} {F H : Hp} {σ : L2.St} {C : List Cell} : ∀ {js : List Nat} {O : Ob} {A : List (Addr × List Addr)}, Ev Φ F H σ C O A → ∃ A', Ev Φ F H σ C (fgl js O) A'
  | [], O, A, E => ⟨A, E⟩
  | j :: js, O, A, E => by
    obtain ⟨A1, E1⟩ := E.forget j
    exact Ev.forgets (js := js) E1
/-! try -/
/-- the clauses' classes can be looked up -/
inductive HdN (X : Cx) : List ExceptHandler → Prop
  | nil : HdN X []
  | cons {x : Str} {c : Value} {b₀ : Stmt} {suite : List Stmt} {np pos' : Pos} {hds : List ExceptHandler} (hc : Names X x c) (r : HdN X hds) : HdN X (.ExceptHandler (some (.Name x np)) none (b₀ :: suite) pos' :: hds)
/-- the exception meets the clauses -/
inductive Hm (X : Cx) (W : WX) (er : Er) (C1 : List Cell) (O1 : Ob) (o : Out) : List ExceptHandler → Prop
  | out {C2 : List Cell} {O2 : Ob} (js : List Nat) (h : o = .ex er C2 O2) (w : Wk C1 C2) (hO : (fgl js O1).take O2.length = O2) (hj : js.all (fun j => Nat.ble (j + 1) O1.length) = true) : Hm X W er C1 O1 o []
  | hit {x : Str} {c : Value} {b₀ : Stmt} {suite : List Stmt} {np pos' : Pos} {hds : List ExceptHandler} (hc : Names X x c) (hx : PySem.W.exmOne X.K (.ref er.cls) c = some true)
      (hs : ∀ (a : Addr) (oe : Obj) (cls : Value) (d : Option Addr) (pn : List (Addr × Obj)), SB (X.suite a ((a, oe) :: pn)) W (b₀ :: suite) C1 O1 o) (r : HdN X hds) : Hm X W er C1 O1 o (.ExceptHandler (some (.Name x np)) none (b₀ :: suite) pos' :: hds)
  | miss {x : Str} {c : Value} {b₀ : Stmt} {suite : List Stmt} {np pos' : Pos} {hds : List ExceptHandler} (hc : Names X x c) (hx : PySem.W.exmOne X.K (.ref er.cls) c = some false) (r : Hm X W er C1 O1 o hds) : Hm X W er C1 O1 o (.ExceptHandler (some (.Name x np)) none (b₀ :: suite) pos' :: hds)
theorem HdN.ok {hds : List ExceptHandler} (h : HdN X hds) : ∃ l, HdsOk X hds l := by
  induction h with
  | nil => exact ⟨[], .nil⟩
  | cons hc r ih =>
    obtain ⟨l, hl⟩ := ih
    exact ⟨(_, fun _ _ _ => fun _ _ _ => False) :: l, .cons hc (fun _ _ _ _ _ _ _ => pss_never) hl⟩
theorem Hm.ok {hds : List ExceptHandler} (h : Hm X W er C1 O1 o hds) (hn : isNx o = true ∨ True) : ∃ l, HdsOk X hds l ∧ ∀ Φ F D σ F' H' A' d (O2 : Ob), o.post W Φ F D → Le F F' → Ev Φ F' H' σ C1 (O1 ++ O2) A' → Φ.as.length ≤ O1.length → C1.all (Cell.lt O1.length) = true → er.pl F' H' d → wMany X.K W D l (.ref er.cls) d σ H' := by
  induction h with
  | @out C2 O3 js e w hO hj =>
    refine ⟨[], .nil, fun Φ F D σ F' H' A' d O2 k l E' hl hC hp => ?_⟩
    subst e
    obtain ⟨A2, E2⟩ := (E'.weak w).forgets (js := js)
    rw [fgl_app fun j hj' => Nat.le_of_ble_eq_true (List.all_eq_true.mp hj j hj'), take_split hO, List.append_assoc] at E2
    exact k F' H' σ A2 d _ l E2 hp
  | hit hc hx hs r =>
    obtain ⟨l, hl⟩ := r.ok
    refine ⟨(_, fun _ _ _ => rdS W C1 O1 o) :: l, .cons hc (fun a oe cls d pn _ _ => hs a oe cls d pn) hl, fun Φ F D σ F' H' A' d O2 k lF E' hl hC hp => ⟨true, hx, fun _ a ha => ⟨Φ, F', A'.take O1.length, ?_, k.mono lF⟩, fun z => nomatch z⟩⟩
    have := E'.trunc (n := O1.length) hC hl
    rw [List.take_left] at this
    exact this
  | miss hc hx r ih =>
    obtain ⟨l, hl, ih⟩ := ih
    refine ⟨(_, fun _ _ _ => fun _ _ _ => False) :: l, .cons hc (fun _ _ _ _ _ _ _ => pss_never) hl, fun Φ F D σ F' H' A' d O2 k lF E' hl hC hp => ⟨false, hx, (fun z => by cases z), fun _ => ih Φ F D σ F' H' A' d O2 k lF E' hl hC hp⟩⟩
def isEx : Out → Bool
  | .ex _ _ _ => true
  | _ => false
/-- the body does not raise -/
theorem ss_try {h0 : ExceptHandler} {hds : List ExceptHandler} (tk : Takes X W) (hh : HdN X (h0 :: hds))
    (hb : ∀ (W' : WX) (pn : List (Addr × Obj)) (xe : Value → Shared → Prop), Takes (X.tr pn xe) W' → PassesOwn (model X.prog X.w) X.A X.env xe → SB (X.tr pn xe) W' body C O o) (ho : isEx o = false := by rfl) (hs : X.stack = X.env :: X.outer := by rfl) (hf : X.env.frame = some X.env.locals := by rfl) :
    SS X W (.Try body (h0 :: hds) [] [] pos) C O o := by
  obtain ⟨l, hl⟩ := hh.ok
  refine impS (ps_try_many hs hf tk (fun W' pn xe t p => hb W' pn xe t p) hl) fun D σ H ⟨Φ, F, A, E, k⟩ => ⟨Φ, F, A, E, ?_⟩
  cases o with
  | ex e C O => cases ho
  | nx C O => exact k
  | rt p O => exact k
  | ro q O => exact k
/-- the body raises -/
theorem ss_tryx {h0 : ExceptHandler} {hds : List ExceptHandler} (tk : Takes X W) (hm : Hm X W er C1 O1 o (h0 :: hds))
    (hb : ∀ (W' : WX) (pn : List (Addr × Obj)) (xe : Value → Shared → Prop), Takes (X.tr pn xe) W' → PassesOwn (model X.prog X.w) X.A X.env xe → SB (X.tr pn xe) W' body C O (.ex er C1 O1)) (hl1 : O1.length = O.length := by rfl) (hC : C1.all (Cell.lt O1.length) = true := by rfl) (hs : X.stack = X.env :: X.outer := by rfl) (hf : X.env.frame = some X.env.locals := by rfl) :
    SS X W (.Try body (h0 :: hds) [] [] pos) C O o := by
  obtain ⟨l, hl, hw⟩ := hm.ok (.inr trivial)
  exact impS (ps_try_many hs hf tk (fun W' pn xe t p => hb W' pn xe t p) hl) fun D σ H ⟨Φ, F, A, E, k⟩ => ⟨Φ, F, A, E, fun F' H' σ' A' d O2 l' E' hp => hw Φ F D σ' F' H' A' d O2 k l' E' (hl1 ▸ E.asl) hC hp⟩
end
def ndb : List Nat → Bool
  | [] => true
  | a :: l => (l.all fun b => !Nat.beq a b) && ndb l
theorem ndb_of : ∀ {l : List Nat}, ndb l = true → l.Nodup
  | [], _ => List.nodup_nil
  | a :: l, h => by
    rw [ndb, Bool.and_eq_true] at h
    refine List.nodup_cons.mpr ⟨fun z => ?_, ndb_of h.2⟩
    have h1 := List.all_eq_true.mp h.1 a z
    have h2 : Nat.beq a a = true := Nat.beq_refl a
    rw [h2] at h1
    cases h1
/-! a class called -/
section
variable {X : Cx} {CX : CXT} {k : Nat} {Ca f : Addr} {fd : FuncData} {ps : List Str} {sp : Sp} {Ex : L2.St → XK} {x m : Str} {p pos : Pos} {e o : Expr} {es : List Expr} {t : TA}
theorem run_makeS {pins : List (Addr × Obj)} {σ : L2.St} {H : Hp} {s : Shared} {Q : VK} {us : List Value} {vs : List V} (M : Mk X.K Ca f) (F : FnOk X.prog X.w X.K X.mg X.base CX k f fd ps sp) (hr : Room (k + 1) X.A) (hb : Binds X.K fd ps [])
    (hx : ∀ σ, PassesAt CX X σ (Ex σ)) (I : Inv X pins σ H s) (r : Vals vs us)
    (h : ∀ x dx, H x = none → H dx = none → dx ≠ x → sp (.ref x :: vs) (upd (upd H dx (.own x)) x (.ins Ca dx [])) (fun v H2 => v = .non ∧ Q (.ref x) H2) (Ex σ)) :
    wpAny (model X.prog X.w) X.A (call (.ref Ca) us) (EP X pins σ Q) X.xe s := by
  have hq := h (s.heap.objs.size + 1) s.heap.objs.size (I.hok.fresh (Nat.le_succ _)) (I.hok.fresh (Nat.le_refl _)) (Nat.ne_of_lt (Nat.lt_succ_self _))
  have I2 := Inv.made (C := Ca) I
  have r2 : Vals (V.ref (s.heap.objs.size + 1) :: vs) (Value.ref (s.heap.objs.size + 1) :: us) := .cons rfl r
  have hl : (Value.ref (s.heap.objs.size + 1) :: us).length = ps.length := by
    have e := r2.length
    rw [F.len _ _ _ _ hq] at e
    exact e.symm
  have b := hb _ (Value.ref (s.heap.objs.size + 1) :: us) I2.kIn (by rw [List.append_nil]; exact hl)
  rw [List.append_nil] at b
  refine wpAny_call (make_map (f := f) I.kIn M.makes M.init (beq_iff_eq.mp M.fn) (codeAny_mono (F.run _ X.stack _ _ ⟨Value.ref (s.heap.objs.size + 1) :: us, []⟩ (Value.ref (s.heap.objs.size + 1) :: us) _ _ (Ex σ) (hr.make Ca us [])
    (I2.env0.make Ca us []) b r2 hq) fun r s' hq' => ?_))
  cases r with
  | error e => exact hx σ pins _ _ e s' I2 hq'
  | ok fl =>
    cases fl with
    | ret u =>
      obtain ⟨v, H', I3, rv, ev, q3⟩ := I2.after hq'
      subst ev
      exact ⟨rv, ⟨V.ref (s.heap.objs.size + 1), H', I3, rfl, q3⟩⟩
    | next => exact False.elim hq'
    | brk => exact False.elim hq'
    | cont => exact False.elim hq'
def tMakeS (C : Addr) (sp : Sp) (Ex : L2.St → XK) (t : TA) : TE := fun σ H Q => t σ H fun vs H1 => ∀ x dx, H1 x = none → H1 dx = none → dx ≠ x →
  sp (.ref x :: vs) (upd (upd H1 dx (.own x)) x (.ins C dx [])) (fun v H2 => v = .non ∧ Q (.ref x) H2) (Ex σ)
theorem pe_makeS (M : Mk X.K Ca f) (F : FnOk X.prog X.w X.K X.mg X.base CX k f fd ps sp) (hr : Room (k + 1) X.A) (hg : Gl X x) (hm : X.mg x = some (.ref Ca)) (hb : Binds X.K fd ps []) (hx : ∀ σ, PassesAt CX X σ (Ex σ))
    (ha : PA X (e :: es) t) (hdb : (x == ("__debug__" : Str)) = false := by decide) (he : starEach (e :: es) X.env = (false, eval e X.env) :: starEach es X.env := by rfl) (hpl : (backTo pos (starEach es X.env)).any (·.1) = false := by rfl) :
    PE X (.Call (.Name x p) (e :: es) [] pos) (tMakeS Ca sp Ex t) := by
  refine ⟨fun pins s σ H Q I h => ?_⟩
  refine wpAny_Call_Name_kw (ld_glob I hg hm ?_ hdb)
  refine PySem.W.callWith_K (h₀ := X.base) I.ok.mod.kin M.kp (thn (ha.run pos pins s σ H _ I h) fun us s1 ⟨vs, H1, I1, r, q⟩ => ⟨I1.kIn, ?_⟩) he hpl
  exact run_makeS M F hr hb hx I1 r q
end
def Cdef (P : Program) (w : World) (K : PySem.W.Frag) (mg : Str → Option Value) (base : Heap) (k : Nat) (Ca : Addr) (name : Str) (ps : List Str) (sp : Sp) : Prop :=
  ∃ f fd, Mk K Ca f ∧ FnOk P w K mg base (L2.CX P w) k f fd ps sp ∧ mg name = some (.ref Ca) ∧ Binds K fd ps []
def AC.up : AC → AC
  | .v p => .v p
  | .o i => .o (i + 1)
theorem Aa.up {F : Hp} {σ : L2.St} {vs : List V} {as : List AC} {x : Option V} (h : Aa F σ vs as) : Aa F (x :: σ) vs (as.map AC.up) := by
  induction h with
  | nil => exact .nil
  | v h _ ih => exact .v h ih
  | o h _ ih => exact .o h ih
/-- the new instance, empty, as the last object, held at a slot ahead of all -/
theorem Ev.makeIns {Φ : Frm} {F H : Hp} {σ : L2.St} {C : List Cell} {O : Ob} {A : List (Addr × List Addr)} {x dx Ca : Addr} (E : Ev Φ F H σ C O A) (hx : H x = none) (hd : H dx = none) (hne : dx ≠ x) :
    Ev Φ F (upd (upd H dx (.own x)) x (.ins Ca dx [])) (some (.ref x) :: σ) (.o O.length :: C) (O ++ [some (insO true Ca [] [])]) (A ++ [(x, [x])]) := by
  have Eb := E.beside (o := .own x) hd
  have hx2 : upd H dx (.own x) x = none := by rw [upd_ne (Ne.symm hne)]; exact hx
  have Eb2 := Eb.beside (o := .ins Ca dx []) hx2
  have E3 := Eb.own (q := insO true Ca [] []) (a := x) (fp := [x]) Eb2 ⟨rfl, dx, [], by rw [upd_same]; rfl, .nil⟩ fun b hb => by
    rw [List.mem_singleton.mp hb]
    exact ⟨hx2, by rw [upd_same]; exact Option.some_ne_none _⟩
  exact ⟨.cons ⟨x, [x], rfl, lastA E.len⟩ E3.ck, E3.len, E3.ob, E3.no, E3.dj, E3.pre, E3.fh, E3.ff, E3.kp, E3.nw, E3.dm, E3.pm⟩
theorem Ev.tail {Φ : Frm} {F H : Hp} {σ : L2.St} {C : List Cell} {O : Ob} {A : List (Addr × List Addr)} {x : Option V} {c : Cell} (E : Ev Φ F H (x :: σ) (c :: C) O A) : Ev Φ F H σ C O A :=
  ⟨by cases E.ck with | cons _ t => exact t, E.len, E.ob, E.no, E.dj, E.pre, E.fh, E.ff, E.kp, E.nw, E.dm, E.pm⟩
section
variable {X : Cx} {W : WX} {C C' C1 C2 : List Cell} {O O' O1 O2 O3 : Ob} {p r : VP} {q q1 : OP} {ps qs : List VP} {tg e e1 e2 e3 : Expr} {es ts : List Expr} {pos p1 p2 p3 : Pos} {x f : Str} {ss body : List Stmt} {ns : List Str} {Ca : Addr} {er : Er} {o : Out}
theorem so_make {m n : Nat} {pn : List Str} {js : List Nat} {as : List AC} {ι : Type} {P : ι → Prop} {D0 : ι → List Cell} {O0 : ι → Ob} {r : ι → Ret} (hf : Cdef X.prog X.w X.K X.mg X.base m Ca x pn (spM P D0 O0 r)) (hr : Room n X.A)
    (i : ι) (hi : P i) (args : SA X (e :: es) C O O1 as) (hR : r i = .v (eqP .non) O') (ad : AD (.o O1.length :: C) (O1.length :: js) (.o 0 :: as.map AC.up) (D0 i)) (hO : O0 i = inO (O1 ++ [some (insO true Ca [] [])]) (O1.length :: js))
    (hO2 : outO (O1 ++ [some (insO true Ca [] [])]) (O1.length :: js) O' = O2 ++ [some q]) (hmn : m + 1 ≤ n := by decide) (nd : ndb (O1.length :: js) = true := by rfl) (hl : O'.length = (O1.length :: js).length := by rfl) (hj : ∀ j ∈ O1.length :: js, ∃ p, (O1 ++ [some (insO true Ca [] [])])[j]? = some (some p) := by exact hjs rfl)
    (hg : Gl X x := by rfl) (hdb : (x == ("__debug__" : Str)) = false := by decide) (he : starEach (e :: es) X.env = (false, eval e X.env) :: starEach es X.env := by rfl) (hpl : (backTo pos (starEach es X.env)).any (·.1) = false := by rfl) :
    SO X (.Call (.Name x p1) (e :: es) [] pos) C O O2 q := by
  obtain ⟨f, fd, M, F, hm, hb⟩ := hf
  have hlen : O2.length = O1.length := by
    have := congrArg List.length hO2
    rw [outO_len] at this
    simp at this; omega
  refine imp (pe_makeS M F (hr.mono hmn) hg hm hb (Ex := fun _ => E0) (fun σ pins H s e s' I h => passL pins σ H s e s' I h) args hdb he hpl) fun σ H Q ⟨Φ, F, A, E, w⟩ => ⟨Φ, F, A, E, fun F1 H1 vs A1 l1 E1 hv y dx hy hdx hne => ?_⟩
  have E2 := E1.makeIns (Ca := Ca) hy hdx hne
  refine ⟨i, hi, ?_⟩
  rw [hO, hR]
  refine call_v E2 hj (ndb_of nd) ad (.o rfl (Aa.up hv)) hl fun F' H' v A' l E' hp => ⟨hp, ?_⟩
  rw [hO2] at E'
  obtain ⟨z, hz, a, fp, ha, hA⟩ := E'.ck.get (i := 0) rfl
  cases hz
  cases ha
  rw [← hlen] at hA
  exact w F' H' _ A' _ fp (l1.trans l) E'.tail (by rw [hlen]; exact E1.asl) rfl hA
theorem sx_make {m n : Nat} {pn : List Str} {js : List Nat} {as : List AC} {ι : Type} {P : ι → Prop} {D0 : ι → List Cell} {O0 : ι → Ob} {r : ι → Ret} (tk : Takes X W) (hf : Cdef X.prog X.w X.K X.mg X.base m Ca x pn (spM P D0 O0 r)) (hr : Room n X.A)
    (i : ι) (hi : P i) (args : SA X (e :: es) C O O1 as) (hR : r i = .x er O') (ad : AD (.o O1.length :: C) (O1.length :: js) (.o 0 :: as.map AC.up) (D0 i)) (hO : O0 i = inO (O1 ++ [some (insO true Ca [] [])]) (O1.length :: js))
    (hO2 : outO (O1 ++ [some (insO true Ca [] [])]) (O1.length :: js) O' = O3) (hO3 : O3.take O1.length = O2) (hcl : C.all (Cell.lt O1.length) = true := by rfl) (hmn : m + 1 ≤ n := by decide) (nd : ndb (O1.length :: js) = true := by rfl) (hl : O'.length = (O1.length :: js).length := by rfl) (hj : ∀ j ∈ O1.length :: js, ∃ p, (O1 ++ [some (insO true Ca [] [])])[j]? = some (some p) := by exact hjs rfl)
    (hg : Gl X x := by rfl) (hdb : (x == ("__debug__" : Str)) = false := by decide) (he : starEach (e :: es) X.env = (false, eval e X.env) :: starEach es X.env := by rfl) (hpl : (backTo pos (starEach es X.env)).any (·.1) = false := by rfl) :
    SX X W (.Call (.Name x p1) (e :: es) [] pos) C O O2 er := by
  obtain ⟨f, fd, M, F, hm, hb⟩ := hf
  refine imp (pe_makeS M F (hr.mono hmn) hg hm hb (Ex := WE W) (fun σ => passAt tk σ) args hdb he hpl) fun σ H Q ⟨Φ, F, A, E, w⟩ => ⟨Φ, F, A, E, fun F1 H1 vs A1 l1 E1 hv y dx hy hdx hne => ?_⟩
  have E2 := E1.makeIns (Ca := Ca) hy hdx hne
  refine ⟨i, hi, ?_⟩
  rw [hO, hR]
  refine call_x E2 hj (ndb_of nd) ad (.o rfl (Aa.up hv)) hl fun F' H' A' d l E' hp => ?_
  rw [hO2] at E'
  have E3 := E'.tail.trunc (n := O1.length) hcl E1.asl
  rw [hO3] at E3
  exact w F' H' _ d (l1.trans l) E3 hp
/-- made, and never changed -/
theorem se_frzG (h : SO X e C O O1 q) (fz : Fz q p) (hc : C.all (Cell.lt O1.length) = true := by rfl) : SE X e C O O1 p :=
  imp h fun σ H Q ⟨Φ, F, A, E, w⟩ => ⟨Φ, F, A, E, fun F1 H1 v A1 a fp l1 E1 hl hv hA => by
    obtain ⟨F2, A2, l2, E2, h2⟩ := E1.freezeLastG fz hl hA hc
    rw [hv]
    exact w F2 H1 _ A2 (l1.trans l2) E2 h2⟩
/-- self.f = e, a new attribute of an instance of ours -/
theorem ss_fldN (m j : Nat) {t : Bool} {pn pa : Pos} (c : Cls X.K Ca) (na : NoAttr X.K Ca f) (h : SE X e C O O1 p) (hO : O1[j]? = some (some (insO t Ca ns ps))) (hf : ixOf ns f = none := by decide +kernel) (hlen : ns.length = ps.length := by rfl) (hsm : ns.length < 1000 := by decide) (hO2 : O1.set j (some (insO t Ca (ns ++ [f]) (ps ++ [p]))) = O2 := by rfl)
    (hC : C[m]? = some (.o j) := by rfl) (hN : X.N[m]? = some x := by rfl) (hv : Vis X.env.scope x := by first | exact Or.inl rfl | exact Or.inr (Or.inl rfl) | exact Or.inr (Or.inr rfl))
    (hd : (x == ("__debug__" : Str)) = false := by decide) (hcd : (x == ("__classdict__" : Str)) = false := by decide) (hs : swapsWith e (some (.Attribute (.Name x pn) f pa)) pos.line X.env = pure false := by rfl) : SS X W (.Assign [.Attribute (.Name x pn) f pa] e pos) C O (.nx C O2) := by
  have put : ∀ {ns : List Str} {vs : List V} {y : V}, ixOf ns f = none → ns.length = vs.length → putF f y (ns.zip vs) = (ns ++ [f]).zip (vs ++ [y]) := by
    intro ns
    induction ns with
    | nil => intro vs y _ hl; cases vs with
      | nil => rfl
      | cons => cases hl
    | cons n ns ih =>
      intro vs y hx hl
      cases vs with
      | nil => cases hl
      | cons u vs =>
        rw [ixOf] at hx
        have hne : ¬ (n = f) := fun e => by
          rw [e, if_pos (beq_self_eq_true _)] at hx; cases hx
        have hx' : ixOf ns f = none := by
          cases e2 : ixOf ns f with
          | none => rfl
          | some m =>
            by_cases e3 : (f == n) = true
            · exact absurd (beq_iff_eq.mp e3).symm hne
            · rw [if_neg e3, e2] at hx; cases hx
        show (if n = f then _ else _) = _
        rw [if_neg hne]
        show (n, u) :: putF f y (ns.zip vs) = _
        rw [ih hx' (by simpa using hl)]; rfl
  refine impS (ps_fld (pe_var hN hv hd hcd) h hs) fun D σ H ⟨Φ, F, A, E, w⟩ => ⟨Φ, F, A, E, fun F1 H1 y A1 l1 E1 hp => ?_⟩
  obtain ⟨a, fp, hs', hA, J⟩ := E1.obj hC hO
  obtain ⟨rfl, dx, vs, hH, al⟩ := J.ok
  refine ⟨.ref a, hs', a, Ca, dx, _, rfl, hH, c, na, by rw [List.length_zip]; omega, ?_⟩
  rw [put hf (by rw [hlen, al.len])]
  subst hO2
  exact w F1 _ σ _ l1 (E1.write hO hA rfl ⟨rfl, dx, vs ++ [y], upd_same, al.app (.cons hp .nil)⟩ (fun b hb _ => upd_ne (fun z => hb (List.mem_singleton.mpr z))) (fun b hb => by
    by_cases z : b = a
    · rw [z, upd_same]; exact Option.some_ne_none _
    · rw [upd_ne z]; exact hb) (fun b hb => ⟨.inl hb, by rw [List.mem_singleton.mp hb, upd_same]; exact Option.some_ne_none _⟩))
end
end SIM

end
section
namespace SIM
open PySem L2 PyProof.Rows
/-! data: == and != -/
class Dt (α : Type) [Rp α] where
  dt : α → PyData
  of : ∀ {K : PySem.W.Frag} {F H : Hp} {v : V} {a : α}, Le F H → (vp a).p F v → Dp K H v (dt a)
  eq : ∀ a b : α, PyData.eqv (dt a) (dt b) = true ↔ a = b
/-- never None -/
class Dn (α : Type) [Rp α] [Dt α] where
  nn : ∀ a : α, PyData.eqv .none (Dt.dt a) = false ∧ PyData.eqv (Dt.dt a) .none = false
/-- of a small shape -/
class Ds (α : Type) [Rp α] [Dt α] where
  cl : ∀ a : α, PyData.canLay0 (Dt.dt a) = true
  n : Nat
  dp : ∀ a : α, PyData.depth (Dt.dt a) ≤ n
instance : Dt Int := ⟨fun i => .int i, fun {K F H v a} l h => by cases (show v = V.int a from h); exact .int a, fun a b => by show (a == b) = true ↔ _; simp⟩
instance : Dt Bool := ⟨fun i => .bool i, fun {K F H v a} l h => by cases (show v = V.bl a from h); exact .bl a, fun a b => by show (a == b) = true ↔ _; simp⟩
instance : Dt Str := ⟨fun i => .str i, fun {K F H v a} l h => by cases (show v = V.str a from h); exact .str a, fun a b => by show (a == b) = true ↔ _; exact beq_iff_eq⟩
instance : Dn Int := ⟨fun _ => ⟨rfl, rfl⟩⟩
instance : Dn Bool := ⟨fun _ => ⟨rfl, rfl⟩⟩
instance : Dn Str := ⟨fun _ => ⟨rfl, rfl⟩⟩
instance : Ds Int := ⟨fun _ => rfl, 0, fun _ => Nat.le_refl _⟩
instance : Ds Bool := ⟨fun _ => rfl, 0, fun _ => Nat.le_refl _⟩
instance {α : Type} [Rp α] [Dt α] [Dn α] : Dt (Option α) where
  dt x := match x with | none => .none | some a => Dt.dt a
  of {K F H v a} l h := by
    cases a with
    | none => cases (show v = V.non from h); exact .non
    | some a => exact Dt.of l h.1
  eq x y := by
    cases x with
    | none => cases y with
      | none => exact ⟨fun _ => rfl, fun _ => rfl⟩
      | some b => dsimp only; rw [(Dn.nn b).1]; simp
    | some a => cases y with
      | none => dsimp only; rw [(Dn.nn a).2]; simp
      | some b => dsimp only; rw [Dt.eq a b]; simp
instance {α : Type} [Rp α] [Dt α] [Dn α] [Ds α] : Ds (Option α) where
  cl x := by
    cases x with
    | none => rfl
    | some a => exact Ds.cl a
  n := Ds.n α
  dp x := by
    cases x with
    | none => exact Nat.zero_le _
    | some a => exact Ds.dp a
theorem dpAll {α : Type} [Rp α] [Dt α] {K : PySem.W.Frag} {F H : Hp} (l : Le F H) : ∀ {xs : List α} {vs : List V}, Al F vs (xs.map vp) → DpAll K H vs (xs.map Dt.dt)
  | [], _, h => by cases h; exact .nil
  | x :: xs, _, h => by cases h with | cons h t => exact .cons (Dt.of l h) (dpAll l t)
theorem eqvAll_eq {α : Type} [Rp α] [Dt α] : ∀ xs ys : List α, PyData.eqvAll (xs.map Dt.dt) (ys.map Dt.dt) = true ↔ xs = ys
  | [], [] => ⟨fun _ => rfl, fun _ => rfl⟩
  | [], _ :: _ => ⟨(fun h => nomatch h), (fun h => nomatch h)⟩
  | _ :: _, [] => ⟨(fun h => nomatch h), (fun h => nomatch h)⟩
  | a :: as, b :: bs => by
    show (PyData.eqv (Dt.dt a) (Dt.dt b) && PyData.eqvAll (as.map Dt.dt) (bs.map Dt.dt)) = true ↔ _
    rw [Bool.and_eq_true, Dt.eq, eqvAll_eq as bs]; simp
theorem canAll {α : Type} [Rp α] [Dt α] [Ds α] : ∀ xs : List α, PyData.canLayAll0 (xs.map Dt.dt) = true
  | [] => rfl
  | a :: as => by
    show (PyData.canLay0 (Dt.dt a) && PyData.canLayAll0 (as.map Dt.dt)) = true
    rw [Ds.cl, canAll as]; rfl
theorem depAll {α : Type} [Rp α] [Dt α] [Ds α] : ∀ xs : List α, PyData.depthAll (xs.map Dt.dt) ≤ Ds.n α
  | [] => Nat.zero_le _
  | a :: as => by
    show max (PyData.depth (Dt.dt a)) (PyData.depthAll (as.map Dt.dt)) ≤ _
    exact Nat.max_le.mpr ⟨Ds.dp a, depAll as⟩
instance {α : Type} [Rp α] [Dt α] : Dt (List α) where
  dt xs := .tuple (xs.map Dt.dt)
  of {K F H v a} l h := by
    obtain ⟨p, vs, rfl, hF, al⟩ := h
    exact .tup (SqT.of (l _ _ hF)) (dpAll l al)
  eq a b := eqvAll_eq a b
instance {α : Type} [Rp α] [Dt α] : Dn (List α) := ⟨fun _ => ⟨rfl, rfl⟩⟩
instance {α : Type} [Rp α] [Dt α] [Ds α] : Ds (List α) := ⟨fun xs => canAll xs, Ds.n α + 1, fun xs => Nat.succ_le_succ (depAll xs)⟩
instance {α : Type} [Rp α] [Dt α] : Dt (Lst α) where
  dt xs := .list (xs.l.map Dt.dt)
  of {K F H v a} l h := by
    obtain ⟨p, vs, rfl, hF, al⟩ := h
    exact .lst (SqL.of (l _ _ hF)) (dpAll l al)
  eq a b := by
    have := eqvAll_eq a.l b.l
    cases a; cases b
    exact this.trans ⟨fun h => congrArg Lst.mk h, fun h => congrArg Lst.l h⟩
instance {α : Type} [Rp α] [Dt α] : Dn (Lst α) := ⟨fun _ => ⟨rfl, rfl⟩⟩
instance {α : Type} [Rp α] [Dt α] [Ds α] : Ds (Lst α) := ⟨fun xs => canAll xs.l, Ds.n α + 1, fun xs => Nat.succ_le_succ (depAll xs.l)⟩
instance {α β : Type} [Rp α] [Rp β] [Dt α] [Dt β] : Dt (α × β) where
  dt x := .tuple [Dt.dt x.1, Dt.dt x.2]
  of {K F H v a} l h := by
    obtain ⟨p, vs, rfl, hF, al⟩ := h
    cases al with | cons h1 al =>
    cases al with | cons h2 al =>
    cases al
    exact .tup (SqT.of (l _ _ hF)) (.cons (Dt.of l h1) (.cons (Dt.of l h2) .nil))
  eq a b := by
    show (PyData.eqv (Dt.dt a.1) (Dt.dt b.1) && (PyData.eqv (Dt.dt a.2) (Dt.dt b.2) && true)) = true ↔ _
    rw [Bool.and_true, Bool.and_eq_true, Dt.eq, Dt.eq, Prod.ext_iff]
instance {α β : Type} [Rp α] [Rp β] [Dt α] [Dt β] : Dn (α × β) := ⟨fun _ => ⟨rfl, rfl⟩⟩
instance {α β : Type} [Rp α] [Rp β] [Dt α] [Dt β] [Ds α] [Ds β] : Ds (α × β) where
  cl x := by
    show (PyData.canLay0 (Dt.dt x.1) && (PyData.canLay0 (Dt.dt x.2) && true)) = true
    rw [Ds.cl, Ds.cl]; rfl
  n := max (Ds.n α) (Ds.n β) + 1
  dp x := by
    show max (PyData.depth (Dt.dt x.1)) (max (PyData.depth (Dt.dt x.2)) 0) + 1 ≤ _
    have h1 := Ds.dp x.1
    have h2 := Ds.dp x.2
    omega
instance {α β γ : Type} [Rp α] [Rp β] [Rp γ] [Dt α] [Dt β] [Dt γ] : Dt (T3 α β γ) where
  dt x := .tuple [Dt.dt x.a, Dt.dt x.b, Dt.dt x.c]
  of {K F H v a} l h := by
    obtain ⟨p, vs, rfl, hF, al⟩ := h
    cases al with | cons h1 al =>
    cases al with | cons h2 al =>
    cases al with | cons h3 al =>
    cases al
    exact .tup (SqT.of (l _ _ hF)) (.cons (Dt.of l h1) (.cons (Dt.of l h2) (.cons (Dt.of l h3) .nil)))
  eq a b := by
    show (PyData.eqv (Dt.dt a.a) (Dt.dt b.a) && (PyData.eqv (Dt.dt a.b) (Dt.dt b.b) && (PyData.eqv (Dt.dt a.c) (Dt.dt b.c) && true))) = true ↔ _
    rw [Bool.and_true, Bool.and_eq_true, Bool.and_eq_true, Dt.eq, Dt.eq, Dt.eq]
    cases a; cases b; simp
instance {α β γ : Type} [Rp α] [Rp β] [Rp γ] [Dt α] [Dt β] [Dt γ] : Dn (T3 α β γ) := ⟨fun _ => ⟨rfl, rfl⟩⟩
instance {α β γ : Type} [Rp α] [Rp β] [Rp γ] [Dt α] [Dt β] [Dt γ] [Ds α] [Ds β] [Ds γ] : Ds (T3 α β γ) where
  cl x := by
    show (PyData.canLay0 (Dt.dt x.a) && (PyData.canLay0 (Dt.dt x.b) && (PyData.canLay0 (Dt.dt x.c) && true))) = true
    rw [Ds.cl, Ds.cl, Ds.cl]; rfl
  n := max (Ds.n α) (max (Ds.n β) (Ds.n γ)) + 1
  dp x := by
    show max (PyData.depth (Dt.dt x.a)) (max (PyData.depth (Dt.dt x.b)) (max (PyData.depth (Dt.dt x.c)) 0)) + 1 ≤ _
    have h1 := Ds.dp x.a
    have h2 := Ds.dp x.b
    have h3 := Ds.dp x.c
    omega
theorem shaped_of {α : Type} [Rp α] [Dt α] [Ds α] (hn : Ds.n α ≤ 64) (a : α) : SeqAt.shaped (Dt.dt a) = true := by
  unfold SeqAt.shaped
  rw [Ds.cl, decide_eq_true (Nat.le_trans (Ds.dp a) hn)]; rfl
theorem eqv_dec {α : Type} [Rp α] [Dt α] [DecidableEq α] (a b : α) : PyData.eqv (Dt.dt a) (Dt.dt b) = decide (a = b) := by
  rw [Bool.eq_iff_iff, Dt.eq, decide_eq_true_iff]
section
variable {X : Cx} {W : WX} {C C' C1 C2 : List Cell} {O O' O1 O2 O3 : Ob} {p r : VP} {q q1 : OP} {ps qs : List VP} {tg e e1 e2 e3 : Expr} {es ts : List Expr} {pos p1 p2 p3 : Pos} {x f : Str} {ss body : List Stmt} {ns : List Str} {Ca : Addr} {er : Er} {o : Out} {i j k : Int} {b b1 b2 : Bool} {n : Nat}
variable {α : Type} [Rp α] [Dt α] [Ds α] [DecidableEq α] {a a' : α}
theorem se_eqD (hr : Room n X.A) (h1 : SE X e1 C O O1 (vp a)) (h2 : SE X e2 C O1 O2 (vp a')) (hn : Ds.n α ≤ 64 := by decide) : SE X (.Compare e1 [.Eq] [e2] pos) C O O2 (vp (decide (a = a'))) :=
  se_cmp (op_eqD hr.units) h1 h2 (nomark _) fun Φ F H σ A x y Q E hx hy k => ⟨_, _, Dt.of E.fh hx, Dt.of E.fh hy, shaped_of hn a, shaped_of hn a', by rw [eqv_dec]; exact k F H _ A Le.refl E rfl⟩
theorem st_eqD (hr : Room n X.A) (h1 : SE X e1 C O O1 (vp a)) (h2 : SE X e2 C O1 O2 (vp a')) (hn : Ds.n α ≤ 64 := by decide) : ST X (.Compare e1 [.Eq] [e2] pos) C O O2 (decide (a = a')) :=
  st_cmp (op_eqD hr.units) h1 h2 (nomark _) fun Φ F H σ A x y Q E hx hy k => ⟨_, _, Dt.of E.fh hx, Dt.of E.fh hy, shaped_of hn a, shaped_of hn a', by rw [eqv_dec]; exact k F H _ A Le.refl E rfl⟩
theorem se_neD (hr : Room n X.A) (h1 : SE X e1 C O O1 (vp a)) (h2 : SE X e2 C O1 O2 (vp a')) (hn : Ds.n α ≤ 64 := by decide) : SE X (.Compare e1 [.NotEq] [e2] pos) C O O2 (vp (!decide (a = a'))) :=
  se_cmp (op_neD hr.units) h1 h2 (nomark _) fun Φ F H σ A x y Q E hx hy k => ⟨_, _, Dt.of E.fh hx, Dt.of E.fh hy, shaped_of hn a, shaped_of hn a', by rw [eqv_dec]; exact k F H _ A Le.refl E rfl⟩
theorem st_neD (hr : Room n X.A) (h1 : SE X e1 C O O1 (vp a)) (h2 : SE X e2 C O1 O2 (vp a')) (hn : Ds.n α ≤ 64 := by decide) : ST X (.Compare e1 [.NotEq] [e2] pos) C O O2 (!decide (a = a')) :=
  st_cmp (op_neD hr.units) h1 h2 (nomark _) fun Φ F H σ A x y Q E hx hy k => ⟨_, _, Dt.of E.fh hx, Dt.of E.fh hy, shaped_of hn a, shaped_of hn a', by rw [eqv_dec]; exact k F H _ A Le.refl E rfl⟩
end
/-! isinstance -/
/-- the type of what it means -/
class Ty (α : Type) [Rp α] (t : outParam String) where
  ty : ∀ {K : PySem.W.Frag} {F H : Hp} {v : V} {a : α}, Le F H → (vp a).p F v → TyX K H v (.type t)
instance : Ty Int "int" := ⟨fun {K F H v a} l h => by cases (show v = V.int a from h); exact .base (.int a)⟩
instance : Ty Bool "bool" := ⟨fun {K F H v a} l h => by cases (show v = V.bl a from h); exact .base (.bl a)⟩
instance : Ty Str "str" := ⟨fun {K F H v a} l h => by cases (show v = V.str a from h); exact .base (.str a)⟩
instance : Ty Unit "NoneType" := ⟨fun {K F H v a} l h => by cases (show v = V.non from h); exact .base .non⟩
instance {α : Type} [Rp α] : Ty (List α) "tuple" := ⟨fun {K F H v a} l h => by obtain ⟨p, vs, rfl, hF, al⟩ := h; exact .base (.tup (l _ _ hF))⟩
instance {α : Type} [Rp α] : Ty (Lst α) "list" := ⟨fun {K F H v a} l h => by obtain ⟨p, vs, rfl, hF, al⟩ := h; exact .base (.lst (l _ _ hF))⟩
instance {α β : Type} [Rp α] [Rp β] : Ty (α × β) "tuple" := ⟨fun {K F H v a} l h => by obtain ⟨p, vs, rfl, hF, al⟩ := h; exact .base (.tup (l _ _ hF))⟩
instance {α β γ : Type} [Rp α] [Rp β] [Rp γ] : Ty (T3 α β γ) "tuple" := ⟨fun {K F H v a} l h => by obtain ⟨p, vs, rfl, hF, al⟩ := h; exact .base (.tup (l _ _ hF))⟩
instance {α β γ δ : Type} [Rp α] [Rp β] [Rp γ] [Rp δ] : Ty (T4 α β γ δ) "tuple" := ⟨fun {K F H v a} l h => by obtain ⟨p, vs, rfl, hF, al⟩ := h; exact .base (.tup (l _ _ hF))⟩
section
variable {X : Cx} {W : WX} {C C' C1 C2 : List Cell} {O O' O1 O2 O3 : Ob} {p r : VP} {q q1 : OP} {ps qs : List VP} {tg e e1 e2 e3 : Expr} {es ts : List Expr} {pos p1 p2 p3 : Pos} {x f : Str} {ss body : List Stmt} {ns : List Str} {Ca : Addr} {er : Er} {o : Out} {i j k : Int} {b b1 b2 : Bool} {n : Nat}
/-- isinstance(e, T) of a built-in type T -/
theorem se_isT {α : Type} [Rp α] {t : String} [Ty α t] {a : α} {T : String} {y : Str} (hm : X.mg "isinstance" = none) (hT : X.mg y = none) (h : SE X e C O O1 (vp a)) (hk : PySem.W.kitOne X.K (.type t) (.type T) = some b) (hbt : bootBuiltins y = some (.type T) := by decide +kernel) (hgy : Gl X y := by rfl) (hyn : y ≠ "__name__" := by decide) (hyd : (y == ("__debug__" : Str)) = false := by decide) (hg : Gl X "isinstance" := by rfl)
    (ns1 : starEach [e, .Name y p2] X.env = (false, eval e X.env) :: starEach [.Name y p2] X.env := by rfl) (ns2 : starEach [.Name y p2] X.env = (false, eval (.Name y p2) X.env) :: starEach [] X.env := by rfl) (hpl : (backTo pos (starEach [.Name y p2] X.env)).any (·.1) = false := by rfl) :
    SE X (.Call (.Name "isinstance" p1) [e, .Name y p2] [] pos) C O O1 (vp b) :=
  imp (pe_callB call_isi hg hm (by decide +kernel) (pa_cons h (pa_cons (pe_bltn (v := .ty T) hgy hT hbt rfl hyn hyd) pa_nil ns2) ns1) (he := ns1) (hpl := hpl)) fun σ H Q ⟨Φ, F, A, E, w⟩ => ⟨Φ, F, A, E, fun F1 H1 v A1 l1 E1 hv =>
    ⟨v, .ty T, .type t, .type T, b, rfl, .ty T, Ty.ty E1.fh hv, hk, w F1 H1 _ A1 l1 E1 rfl⟩⟩
/-- isinstance(e, C) of a built-in value -/
theorem se_isTC {α : Type} [Rp α] {t : String} [Ty α t] {a : α} {y : Str} (hm : X.mg "isinstance" = none) (hT : X.mg y = some (.ref Ca)) (h : SE X e C O O1 (vp a)) (hk : PySem.W.kitOne X.K (.type t) (.ref Ca) = some b) (hgy : Gl X y := by rfl) (hyd : (y == ("__debug__" : Str)) = false := by decide) (hg : Gl X "isinstance" := by rfl)
    (ns1 : starEach [e, .Name y p2] X.env = (false, eval e X.env) :: starEach [.Name y p2] X.env := by rfl) (ns2 : starEach [.Name y p2] X.env = (false, eval (.Name y p2) X.env) :: starEach [] X.env := by rfl) (hpl : (backTo pos (starEach [.Name y p2] X.env)).any (·.1) = false := by rfl) :
    SE X (.Call (.Name "isinstance" p1) [e, .Name y p2] [] pos) C O O1 (vp b) :=
  imp (pe_callB call_isi hg hm (by decide +kernel) (pa_cons h (pa_cons (pe_glob (v := .ref Ca) hgy hT rfl hyd) pa_nil ns2) ns1) (he := ns1) (hpl := hpl)) fun σ H Q ⟨Φ, F, A, E, w⟩ => ⟨Φ, F, A, E, fun F1 H1 v A1 l1 E1 hv =>
    ⟨v, .ref Ca, .type t, .ref Ca, b, rfl, .own Ca, Ty.ty E1.fh hv, hk, w F1 H1 _ A1 l1 E1 rfl⟩⟩
/-- isinstance(e, C), e an instance of C -/
theorem se_isC {y : Str} (hm : X.mg "isinstance" = none) (hT : X.mg y = some (.ref Ca)) (ic : C8.InsC X.K Ca) (h : SE X e C O O1 (insP Ca ns ps)) (hgy : Gl X y := by rfl) (hyd : (y == ("__debug__" : Str)) = false := by decide) (hg : Gl X "isinstance" := by rfl)
    (ns1 : starEach [e, .Name y p2] X.env = (false, eval e X.env) :: starEach [.Name y p2] X.env := by rfl) (ns2 : starEach [.Name y p2] X.env = (false, eval (.Name y p2) X.env) :: starEach [] X.env := by rfl) (hpl : (backTo pos (starEach [.Name y p2] X.env)).any (·.1) = false := by rfl) :
    SE X (.Call (.Name "isinstance" p1) [e, .Name y p2] [] pos) C O O1 (vp true) :=
  imp (pe_callB (C8.call_isC ic) hg hm (by decide +kernel) (pa_cons h (pa_cons (pe_glob (v := .ref Ca) hgy hT rfl hyd) pa_nil ns2) ns1) (he := ns1) (hpl := hpl)) fun σ H Q ⟨Φ, F, A, E, w⟩ => ⟨Φ, F, A, E, fun F1 H1 v A1 l1 E1 ⟨a, dx, vs, ev, hF, al⟩ =>
    ⟨a, dx, _, by rw [ev], E1.fh _ _ hF, w F1 H1 _ A1 l1 E1 rfl⟩⟩
/-- isinstance(e, T), e an instance of C, T built-in -/
theorem se_isCT {y : Str} {T : String} (hm : X.mg "isinstance" = none) (hT : X.mg y = none) (ic : C8.InsC X.K Ca) (hk : PySem.W.kitOne X.K (.ref Ca) (.type T) = some b) (h : SE X e C O O1 (insP Ca ns ps)) (hbt : bootBuiltins y = some (.type T) := by decide +kernel) (hgy : Gl X y := by rfl) (hyn : y ≠ "__name__" := by decide) (hyd : (y == ("__debug__" : Str)) = false := by decide) (hg : Gl X "isinstance" := by rfl)
    (ns1 : starEach [e, .Name y p2] X.env = (false, eval e X.env) :: starEach [.Name y p2] X.env := by rfl) (ns2 : starEach [.Name y p2] X.env = (false, eval (.Name y p2) X.env) :: starEach [] X.env := by rfl) (hpl : (backTo pos (starEach [.Name y p2] X.env)).any (·.1) = false := by rfl) :
    SE X (.Call (.Name "isinstance" p1) [e, .Name y p2] [] pos) C O O1 (vp b) :=
  imp (pe_callB call_isi hg hm (by decide +kernel) (pa_cons h (pa_cons (pe_bltn (v := .ty T) hgy hT hbt rfl hyn hyd) pa_nil ns2) ns1) (he := ns1) (hpl := hpl)) fun σ H Q ⟨Φ, F, A, E, w⟩ => ⟨Φ, F, A, E, fun F1 H1 v A1 l1 E1 ⟨a, dx, vs, ev, hF, al⟩ =>
    ⟨v, .ty T, .ref Ca, .type T, b, rfl, .ty T, by rw [ev]; exact .base (.ins (E1.fh _ _ hF) ic.cl ic.ha ic.hn ic.htk ic.hm), hk, w F1 H1 _ A1 l1 E1 rfl⟩⟩
/-! more tests, sources -/
/-- a list is true where it is not empty -/
theorem st_list {α : Type} {l : List α} {fv : α → VP} (h : SL X e C O O1 (l.map fv)) (he : ∀ whole, isTrue e X.env whole = (do let v ← whole; standAt e.pos; holding [v] (truthy v)) := by intro _; rfl) : ST X e C O O1 (!l.isEmpty) :=
  impT (pt_truth h he) fun σ H Q ⟨Φ, F, A, E, w⟩ => ⟨Φ, F, A, E, fun F1 H1 a vs A1 l1 E1 hv al => by
    have hl := al.len
    rw [List.length_map] at hl
    have e : (!vs.isEmpty) = !l.isEmpty := by
      cases vs with
      | nil => cases l with
        | nil => rfl
        | cons => simp at hl
      | cons => cases l with
        | nil => simp at hl
        | cons => rfl
    exact ⟨!vs.isEmpty, .inl ⟨vs, SqL.of hv, rfl⟩, by rw [e]; exact w F1 H1 A1 l1 E1⟩⟩
theorem st_tupl {α : Type} {l : List α} {fv : α → VP} (h : SE X e C O O1 (tupP (l.map fv))) (he : ∀ whole, isTrue e X.env whole = (do let v ← whole; standAt e.pos; holding [v] (truthy v)) := by intro _; rfl) : ST X e C O O1 (!l.isEmpty) :=
  impT (pt_truth h he) fun σ H Q ⟨Φ, F, A, E, w⟩ => ⟨Φ, F, A, E, fun F1 H1 v A1 l1 E1 ⟨a, vs, ev, hF, al⟩ => by
    have hl := al.len
    rw [List.length_map] at hl
    have e : (!vs.isEmpty) = !l.isEmpty := by
      cases vs with
      | nil => cases l with
        | nil => rfl
        | cons => simp at hl
      | cons => cases l with
        | nil => simp at hl
        | cons => rfl
    subst ev
    exact ⟨!vs.isEmpty, .inr (.inl ⟨vs, SqT.of (E1.fh _ _ hF), rfl⟩), by rw [e]; exact w F1 H1 A1 l1 E1⟩⟩
/-- an int is true where it is not 0 -/
theorem st_int (h : SE X e C O O1 (vp i)) (he : ∀ whole, isTrue e X.env whole = (do let v ← whole; standAt e.pos; holding [v] (truthy v)) := by intro _; rfl) : ST X e C O O1 (i != 0) :=
  impT (pt_truth h he) fun σ H Q ⟨Φ, F, A, E, w⟩ => ⟨Φ, F, A, E, fun F1 H1 v A1 l1 E1 hv => by
    cases (show v = V.int i from hv)
    exact ⟨i != 0, rfl, w F1 H1 A1 l1 E1⟩⟩
end
end SIM

end
section
namespace SIM
open PySem L2 PyProof.Rows
/-! what a generated proof leans on -/
theorem ifp {α : Type} {c : Prop} [Decidable c] {a b x : α} (h : (if c then a else b) = x) (hc : c) : a = x := by rw [if_pos hc] at h; exact h
theorem ifn {α : Type} {c : Prop} [Decidable c] {a b x : α} (h : (if c then a else b) = x) (hc : ¬ c) : b = x := by rw [if_neg hc] at h; exact h
theorem ifb {α : Type} {c : Bool} {a b x : α} (h : (if c = true then a else b) = x) (hc : c = false) : b = x := by rw [hc, if_neg Bool.false_ne_true] at h; exact h
def optE {α β : Type} (x : Option α) (n : β) (s : α → β) : β := match x with
  | none => n
  | some a => s a
theorem optS {α β : Type} {x : Option α} {n : β} {s : α → β} {r : β} {a : α} (h : optE x n s = r) (hx : x = some a) : s a = r := by subst hx; exact h
theorem optN {α β : Type} {x : Option α} {n : β} {s : α → β} {r : β} (h : optE x n s = r) (hx : x = none) : n = r := by subst hx; exact h
theorem optCases {α : Type} (x : Option α) : x = none ∨ ∃ a, x = some a := by cases x with | none => exact .inl rfl | some a => exact .inr ⟨a, rfl⟩
theorem isN_t {α : Type} {x : Option α} (h : x.isNone = true) : x = none := by cases x with | none => rfl | some a => cases h
theorem isN_f {α : Type} {x : Option α} (h : x.isNone = false) : ∃ a, x = some a := by cases x with | none => cases h | some a => exact ⟨a, rfl⟩
theorem nisN_t {α : Type} {x : Option α} (h : (!x.isNone) = true) : ∃ a, x = some a := by cases x with | none => cases h | some a => exact ⟨a, rfl⟩
theorem nisN_f {α : Type} {x : Option α} (h : (!x.isNone) = false) : x = none := by cases x with | none => rfl | some a => cases h
theorem sinj {α : Type} {a b : α} (h : some a = some b) : a = b := Option.some.inj h
abbrev us (n : Nat) : List Cell := List.replicate n .u
def bindX {ε ρ τ α : Type} (m : Option (Res ε α)) (f : α → Option (Ctl ε ρ τ)) : Option (Ctl ε ρ τ) := m.bind fun r => match r with
  | .ok a => f a
  | .er e => some (.ex e)
theorem bndX {ε ρ τ α : Type} {m : Option (Res ε α)} {f : α → Option (Ctl ε ρ τ)} {r : Ctl ε ρ τ} (h : bindX m f = some r) : (∃ e, m = some (.er e) ∧ r = .ex e) ∨ ∃ a, m = some (.ok a) ∧ f a = some r := by
  obtain ⟨x, h1, h2⟩ := bnd h
  cases x with
  | ok a => exact .inr ⟨a, h1, h2⟩
  | er e => exact .inl ⟨e, h1, (Option.some.inj h2).symm⟩
/-- behind a piece that may leave: in a def that does not raise; in one that may; within a piece that may leave -/
def goF {ρ τ : Type} (m : Option (Ctl Empty ρ τ)) (f : τ → Option ρ) : Option ρ := m.bind fun c => match c with
  | .nx s => f s
  | .rt r => some r
  | .ex e => e.elim
def goR {ε ρ τ : Type} (m : Option (Ctl ε ρ τ)) (f : τ → Option (Res ε ρ)) : Option (Res ε ρ) := m.bind fun c => match c with
  | .nx s => f s
  | .rt r => some (.ok r)
  | .ex e => some (.er e)
def goC {ε ρ τ τ' : Type} (m : Option (Ctl ε ρ τ)) (f : τ → Option (Ctl ε ρ τ')) : Option (Ctl ε ρ τ') := m.bind fun c => match c with
  | .nx s => f s
  | .rt r => some (.rt r)
  | .ex e => some (.ex e)
theorem gF {ρ τ : Type} {m : Option (Ctl Empty ρ τ)} {f : τ → Option ρ} {x : ρ} (h : goF m f = some x) : (∃ s, m = some (.nx s) ∧ f s = some x) ∨ m = some (.rt x) := by
  obtain ⟨c, h1, h2⟩ := bnd h
  cases c with
  | nx s => exact .inl ⟨s, h1, h2⟩
  | rt r => cases h2; exact .inr h1
  | ex e => exact e.elim
theorem gR {ε ρ τ : Type} {m : Option (Ctl ε ρ τ)} {f : τ → Option (Res ε ρ)} {x : Res ε ρ} (h : goR m f = some x) : (∃ s, m = some (.nx s) ∧ f s = some x) ∨ (∃ r, m = some (.rt r) ∧ x = .ok r) ∨ ∃ e, m = some (.ex e) ∧ x = .er e := by
  obtain ⟨c, h1, h2⟩ := bnd h
  cases c with
  | nx s => exact .inl ⟨s, h1, h2⟩
  | rt r => cases h2; exact .inr (.inl ⟨r, h1, rfl⟩)
  | ex e => cases h2; exact .inr (.inr ⟨e, h1, rfl⟩)
theorem gC {ε ρ τ τ' : Type} {m : Option (Ctl ε ρ τ)} {f : τ → Option (Ctl ε ρ τ')} {x : Ctl ε ρ τ'} (h : goC m f = some x) : (∃ s, m = some (.nx s) ∧ f s = some x) ∨ (∃ r, m = some (.rt r) ∧ x = .rt r) ∨ ∃ e, m = some (.ex e) ∧ x = .ex e := by
  obtain ⟨c, h1, h2⟩ := bnd h
  cases c with
  | nx s => exact .inl ⟨s, h1, h2⟩
  | rt r => cases h2; exact .inr (.inl ⟨r, h1, rfl⟩)
  | ex e => cases h2; exact .inr (.inr ⟨e, h1, rfl⟩)
/-- .. in a def without a return -/
def goP {ε ρ τ : Type} (m : Option (Ctl ε Empty τ)) (f : τ → Option (Res ε ρ)) : Option (Res ε ρ) := m.bind fun c => match c with
  | .nx s => f s
  | .rt r => r.elim
  | .ex e => some (.er e)
theorem gP {ε ρ τ : Type} {m : Option (Ctl ε Empty τ)} {f : τ → Option (Res ε ρ)} {x : Res ε ρ} (h : goP m f = some x) : (∃ s, m = some (.nx s) ∧ f s = some x) ∨ ∃ e, m = some (.ex e) ∧ x = .er e := by
  obtain ⟨c, h1, h2⟩ := bnd h
  cases c with
  | nx s => exact .inl ⟨s, h1, h2⟩
  | rt r => exact r.elim
  | ex e => cases h2; exact .inr ⟨e, h1, rfl⟩
/-- not None -/
class Nn (α : Type) [Rp α] where
  nn : ∀ {F : Hp} {v : V} {a : α}, (vp a).p F v → v ≠ .non
instance : Nn Int := ⟨fun {F v a} h => by cases (show v = V.int a from h); exact fun z => nomatch z⟩
instance : Nn Bool := ⟨fun {F v a} h => by cases (show v = V.bl a from h); exact fun z => nomatch z⟩
instance : Nn Str := ⟨fun {F v a} h => by cases (show v = V.str a from h); exact fun z => nomatch z⟩
instance {α : Type} [Rp α] : Nn (List α) := ⟨fun {F v a} h => by obtain ⟨p, vs, rfl, _⟩ := h; exact fun z => nomatch z⟩
instance {α : Type} [Rp α] : Nn (Lst α) := ⟨fun {F v a} h => by obtain ⟨p, vs, rfl, _⟩ := h; exact fun z => nomatch z⟩
instance {α β : Type} [Rp α] [Rp β] : Nn (α × β) := ⟨fun {F v a} h => by obtain ⟨p, vs, rfl, _⟩ := h; exact fun z => nomatch z⟩
instance {α β γ : Type} [Rp α] [Rp β] [Rp γ] : Nn (T3 α β γ) := ⟨fun {F v a} h => by obtain ⟨p, vs, rfl, _⟩ := h; exact fun z => nomatch z⟩
instance {α β γ δ : Type} [Rp α] [Rp β] [Rp γ] [Rp δ] : Nn (T4 α β γ δ) := ⟨fun {F v a} h => by obtain ⟨p, vs, rfl, _⟩ := h; exact fun z => nomatch z⟩
instance [Wd] : Nn Len := ⟨fun {F v a} h => by obtain ⟨p, dx, vs, rfl, _⟩ := h; exact fun z => nomatch z⟩
instance [Wd] : Nn Lim := ⟨fun {F v a} h => by obtain ⟨p, dx, vs, rfl, _⟩ := h; exact fun z => nomatch z⟩
section
variable {X : Cx} {W : WX} {C C' C1 C2 : List Cell} {O O' O1 O2 O3 O4 : Ob} {p r : VP} {q q1 : OP} {ps qs : List VP} {tg e e1 e2 e3 e4 : Expr} {es ts : List Expr} {pos p1 p2 p3 : Pos} {x f : Str} {s : Stmt} {ss body : List Stmt} {ns : List Str} {Ca : Addr} {er : Er} {o : Out} {i j k : Int} {b b1 b2 : Bool} {n : Nat}
theorem seT (p : VP) (O1 : Ob) (h : SE X e C O O1 p) : SE X e C O O1 p := h
theorem stT (b : Bool) (O1 : Ob) (h : ST X e C O O1 b) : ST X e C O O1 b := h
theorem swT (b : Bool) (O1 : Ob) (h : SW X e C O O1 b) : SW X e C O O1 b := h
theorem kit_same {K : PySem.W.Frag} {t : String} : PySem.W.kitOne K (.type t) (.type t) = some true := by unfold PySem.W.kitOne; simp
theorem sb_wkC (h : SB X W ss C O (.nx C1 O1)) (w : Wk C1 C2) : SB X W ss C O (.nx C2 O1) :=
  impSs h fun D σ H ⟨Φ, F, A, E, k⟩ => ⟨Φ, F, A, E, fun F' H' σ' A' l E' => k F' H' σ' A' l (E'.weak w)⟩
theorem sb_nilW (w : Wk C C2) : SB X W [] C O (.nx C2 O) := sb_wkC sb_nil w
theorem se_sm {α : Type} [Rp α] [Nn α] {a : α} (h : SE X e C O O1 (vp a)) : SE X e C O O1 (vp (some a)) := se_as h fun F v hv => ⟨hv, Nn.nn hv⟩
theorem se_tup2 {α β : Type} [Rp α] [Rp β] {a : α} {b : β} {n : Nat} (h1 : SE X e1 C O O1 (vp a)) (h2 : SE X e2 C O1 O2 (vp b)) (s1 : starEach [e1, e2] X.env = (false, eval e1 X.env) :: starEach [e2] X.env := by rfl) (s2 : starEach [e2] X.env = (false, eval e2 X.env) :: starEach [] X.env := by rfl) : SE X (.Tuple [e1, e2] n pos) C O O2 (vp (a, b)) :=
  se_tup (ps := [vp a, vp b]) (sa_v h1 (sa_v h2 sa_nil s2) s1)
theorem se_tup3 {α β γ : Type} [Rp α] [Rp β] [Rp γ] {a : α} {b : β} {c : γ} {n : Nat} (h1 : SE X e1 C O O1 (vp a)) (h2 : SE X e2 C O1 O2 (vp b)) (h3 : SE X e3 C O2 O3 (vp c)) (s1 : starEach [e1, e2, e3] X.env = (false, eval e1 X.env) :: starEach [e2, e3] X.env := by rfl) (s2 : starEach [e2, e3] X.env = (false, eval e2 X.env) :: starEach [e3] X.env := by rfl) (s3 : starEach [e3] X.env = (false, eval e3 X.env) :: starEach [] X.env := by rfl) : SE X (.Tuple [e1, e2, e3] n pos) C O O3 (vp (T3.mk a b c)) :=
  se_tup (ps := [vp a, vp b, vp c]) (sa_v h1 (sa_v h2 (sa_v h3 sa_nil s3) s2) s1)
theorem se_tup4 {α β γ δ : Type} [Rp α] [Rp β] [Rp γ] [Rp δ] {a : α} {b : β} {c : γ} {d : δ} {n : Nat} (h1 : SE X e1 C O O1 (vp a)) (h2 : SE X e2 C O1 O2 (vp b)) (h3 : SE X e3 C O2 O3 (vp c)) (h4 : SE X e4 C O3 O4 (vp d)) (s1 : starEach [e1, e2, e3, e4] X.env = (false, eval e1 X.env) :: starEach [e2, e3, e4] X.env := by rfl) (s2 : starEach [e2, e3, e4] X.env = (false, eval e2 X.env) :: starEach [e3, e4] X.env := by rfl) (s3 : starEach [e3, e4] X.env = (false, eval e3 X.env) :: starEach [e4] X.env := by rfl) (s4 : starEach [e4] X.env = (false, eval e4 X.env) :: starEach [] X.env := by rfl) : SE X (.Tuple [e1, e2, e3, e4] n pos) C O O4 (vp (T4.mk a b c d)) :=
  se_tup (ps := [vp a, vp b, vp c, vp d]) (sa_v h1 (sa_v h2 (sa_v h3 (sa_v h4 sa_nil s4) s3) s2) s1)
/-- a tuple display whose items mean the same -/
theorem se_tupV {α : Type} [Rp α] (l : List α) {n : Nat} (h : SA X es C O O1 ((l.map vp).map AC.v)) (hz : l.length ≤ 1000 := by exact Nat.le_of_ble_eq_true rfl) : SE X (.Tuple es n pos) C O O1 (vp l) := se_tup h (by rw [List.length_map]; exact hz)
theorem se_lstV {α : Type} [Rp α] (l : List α) (h : SA X es C O O1 ((l.map vp).map AC.v)) (hz : l.length ≤ 1000 := by exact Nat.le_of_ble_eq_true rfl) : SE X (.List es pos) C O O1 (vp (Lst.mk l)) := se_lst h (by rw [List.length_map]; exact hz)
theorem so_lstV {α : Type} [Rp α] (l : List α) (h : SA X es C O O1 ((l.map vp).map AC.v)) (hz : l.length ≤ 1000 := by exact Nat.le_of_ble_eq_true rfl) : SO X (.List es pos) C O O1 (lstO (l.map vp)) := so_lst h (by rw [List.length_map]; exact hz)
/-! items of small tuples -/
theorem se_p1 {α β : Type} [Rp α] [Rp β] {a : α × β} (h : SE X e1 C O O1 (vp a)) (h2 : SE X e2 C O1 O1 (vp (0 : Int))) (hx : PlainIx e2 := by exact fun _ _ => rfl) : SE X (.Subscript e1 e2 pos) C O O1 (vp a.1) := se_ixT (ps := [vp a.1, vp a.2]) h h2 rfl hx
theorem se_p2 {α β : Type} [Rp α] [Rp β] {a : α × β} (h : SE X e1 C O O1 (vp a)) (h2 : SE X e2 C O1 O1 (vp (1 : Int))) (hx : PlainIx e2 := by exact fun _ _ => rfl) : SE X (.Subscript e1 e2 pos) C O O1 (vp a.2) := se_ixT (ps := [vp a.1, vp a.2]) h h2 rfl hx
theorem se_t1 {α β γ : Type} [Rp α] [Rp β] [Rp γ] {a : T3 α β γ} (h : SE X e1 C O O1 (vp a)) (h2 : SE X e2 C O1 O1 (vp (0 : Int))) (hx : PlainIx e2 := by exact fun _ _ => rfl) : SE X (.Subscript e1 e2 pos) C O O1 (vp a.a) := se_ixT (ps := [vp a.a, vp a.b, vp a.c]) h h2 rfl hx
theorem se_t2 {α β γ : Type} [Rp α] [Rp β] [Rp γ] {a : T3 α β γ} (h : SE X e1 C O O1 (vp a)) (h2 : SE X e2 C O1 O1 (vp (1 : Int))) (hx : PlainIx e2 := by exact fun _ _ => rfl) : SE X (.Subscript e1 e2 pos) C O O1 (vp a.b) := se_ixT (ps := [vp a.a, vp a.b, vp a.c]) h h2 rfl hx
theorem se_t3 {α β γ : Type} [Rp α] [Rp β] [Rp γ] {a : T3 α β γ} (h : SE X e1 C O O1 (vp a)) (h2 : SE X e2 C O1 O1 (vp (2 : Int))) (hx : PlainIx e2 := by exact fun _ _ => rfl) : SE X (.Subscript e1 e2 pos) C O O1 (vp a.c) := se_ixT (ps := [vp a.a, vp a.b, vp a.c]) h h2 rfl hx
theorem se_q1 {α β γ δ : Type} [Rp α] [Rp β] [Rp γ] [Rp δ] {a : T4 α β γ δ} (h : SE X e1 C O O1 (vp a)) (h2 : SE X e2 C O1 O1 (vp (0 : Int))) (hx : PlainIx e2 := by exact fun _ _ => rfl) : SE X (.Subscript e1 e2 pos) C O O1 (vp a.a) := se_ixT (ps := [vp a.a, vp a.b, vp a.c, vp a.d]) h h2 rfl hx
theorem se_q2 {α β γ δ : Type} [Rp α] [Rp β] [Rp γ] [Rp δ] {a : T4 α β γ δ} (h : SE X e1 C O O1 (vp a)) (h2 : SE X e2 C O1 O1 (vp (1 : Int))) (hx : PlainIx e2 := by exact fun _ _ => rfl) : SE X (.Subscript e1 e2 pos) C O O1 (vp a.b) := se_ixT (ps := [vp a.a, vp a.b, vp a.c, vp a.d]) h h2 rfl hx
theorem se_q3 {α β γ δ : Type} [Rp α] [Rp β] [Rp γ] [Rp δ] {a : T4 α β γ δ} (h : SE X e1 C O O1 (vp a)) (h2 : SE X e2 C O1 O1 (vp (2 : Int))) (hx : PlainIx e2 := by exact fun _ _ => rfl) : SE X (.Subscript e1 e2 pos) C O O1 (vp a.c) := se_ixT (ps := [vp a.a, vp a.b, vp a.c, vp a.d]) h h2 rfl hx
theorem se_q4 {α β γ δ : Type} [Rp α] [Rp β] [Rp γ] [Rp δ] {a : T4 α β γ δ} (h : SE X e1 C O O1 (vp a)) (h2 : SE X e2 C O1 O1 (vp (3 : Int))) (hx : PlainIx e2 := by exact fun _ _ => rfl) : SE X (.Subscript e1 e2 pos) C O O1 (vp a.d) := se_ixT (ps := [vp a.a, vp a.b, vp a.c, vp a.d]) h h2 rfl hx
/-- items, typed -/
theorem se_ixV {α : Type} [Rp α] {l : List α} {a : α} (h1 : SE X e1 C O O1 (vp l)) (h2 : SE X e2 C O1 O2 (vp i)) (hi : ixL l i = some a) (hx : PlainIx e2 := by exact fun _ _ => rfl) : SE X (.Subscript e1 e2 pos) C O O2 (vp a) := se_ixTt h1 h2 hi hx
theorem se_ixF {α : Type} [Rp α] {l : Lst α} {a : α} (h1 : SE X e1 C O O1 (vp l)) (h2 : SE X e2 C O1 O2 (vp i)) (hi : ixL l.l i = some a) (hx : PlainIx e2 := by exact fun _ _ => rfl) : SE X (.Subscript e1 e2 pos) C O O2 (vp a) := se_ixLt h1 h2 hi hx
theorem se_ixN {α : Type} [Rp α] {l : List α} {a : α} (n : Nat) {m : Nat} {pn : Pos} {t : Bool} (h2 : SE X e2 C O O2 (vp i)) (hi : ixL l i = some a) (hO : O2[m]? = some (some (lstG t (l.map vp))) := by rfl) (hC : C[n]? = some (.o m) := by rfl) (hN : X.N[n]? = some x := by rfl) (hv : Vis X.env.scope x := by first | exact Or.inl rfl | exact Or.inr (Or.inl rfl) | exact Or.inr (Or.inr rfl))
    (hd : (x == ("__debug__" : Str)) = false := by decide) (hcd : (x == ("__classdict__" : Str)) = false := by decide) (hx : PlainIx e2 := by exact fun _ _ => rfl) : SE X (.Subscript (.Name x pn) e2 pos) C O O2 (vp a) := se_ixOt n h2 hi hO hC hN hv hd hcd hx
/-! lists as values -/
theorem se_tupleO {α : Type} [Rp α] {l : List α} {p1 : Pos} (hm : X.mg "tuple" = none) (h : SL X e C O O1 (l.map vp)) (hg : Gl X "tuple" := by rfl) (ns : starEach [e] X.env = (false, eval e X.env) :: starEach [] X.env := by rfl) : SE X (.Call (.Name "tuple" p1) [e] [] pos) C O O1 (vp l) := se_tupleL hm h hg ns
theorem se_tupleV {α : Type} [Rp α] {l : List α} {p1 : Pos} (hm : X.mg "tuple" = none) (h : SE X e C O O1 (vp l)) (hg : Gl X "tuple" := by rfl) (ns : starEach [e] X.env = (false, eval e X.env) :: starEach [] X.env := by rfl) : SE X (.Call (.Name "tuple" p1) [e] [] pos) C O O1 (vp l) := se_tupleT hm h hg ns
theorem sl_F {α : Type} [Rp α] {l : Lst α} (h : SE X e C O O1 (vp l)) : SL X e C O O1 (l.l.map vp) := sl_frz h
theorem sl_N {α : Type} [Rp α] {l : List α} (n : Nat) {m : Nat} {pn : Pos} (hC : C[n]? = some (.o m) := by rfl) {t : Bool} (hO : O[m]? = some (some (lstG t (l.map vp))) := by rfl) (hN : X.N[n]? = some x := by rfl) (hv : Vis X.env.scope x := by first | exact Or.inl rfl | exact Or.inr (Or.inl rfl) | exact Or.inr (Or.inr rfl)) (hd : (x == ("__debug__" : Str)) = false := by decide)
    (hcd : (x == ("__classdict__" : Str)) = false := by decide) : SL X (.Name x pn) C O O (l.map vp) := sl_var n hC hO hN hv hd hcd
theorem se_fz {α : Type} [Rp α] {l : List α} (h : SO X e C O O1 (lstO (l.map vp))) (hc : C.all (Cell.lt O1.length) = true := by rfl) : SE X e C O O1 (vp (Lst.mk l)) := se_frz h hc
theorem se_lenV {α : Type} [Rp α] {l : List α} {p1 : Pos} (hm : X.mg "len" = none) (h : SE X e C O O1 (vp l)) (hg : Gl X "len" := by rfl) (ns : starEach [e] X.env = (false, eval e X.env) :: starEach [] X.env := by rfl) : SE X (.Call (.Name "len" p1) [e] [] pos) C O O1 (vp (l.length : Int)) := se_lenTt hm h hg ns
theorem sb_fz {α : Type} [Rp α] {l : List α} {o : Out} (n : Nat) {m : Nat} (h : SB X W ss (C.set n (.v (vp (Lst.mk l)))) (O.set m none) o) (hC : C[n]? = some (.o m) := by rfl) (hO : O[m]? = some (some (lstO (l.map vp))) := by rfl) : SB X W ss C O o := sb_freeze n h hC hO
/-! slices, sums -/
theorem se_slV {α : Type} [Rp α] {l : List α} {lo hi : Option Expr} {l1 u1 : Option Int} {sp : Pos} (h : SE X e C O O1 (vp l)) (hl : SPo X lo C O1 O2 l1) (hu : SPo X hi C O2 O3 u1) : SE X (.Subscript e (.Slice lo hi none sp) pos) C O O3 (vp (cutP l l1 u1)) := se_slTt h hl hu
theorem se_slF {α : Type} [Rp α] {l : Lst α} {lo hi : Option Expr} {l1 u1 : Option Int} {sp : Pos} (h : SE X e C O O1 (vp l)) (hl : SPo X lo C O1 O2 l1) (hu : SPo X hi C O2 O3 u1) : SE X (.Subscript e (.Slice lo hi none sp) pos) C O O3 (vp (Lst.mk (cutP l.l l1 u1))) := se_slLt h hl hu
theorem se_catV {α : Type} [Rp α] {l l2 l' : List α} (h1 : SE X e1 C O O1 (vp l)) (h2 : SE X e2 C O1 O2 (vp l2)) (h : extM l l2 = some l') : SE X (.BinOp e1 .Add e2 pos) C O O2 (vp l') := se_catTt h1 h2 h
theorem se_catF {α : Type} [Rp α] {l l2 : Lst α} {l' : List α} (h1 : SE X e1 C O O1 (vp l)) (h2 : SE X e2 C O1 O2 (vp l2)) (h : extM l.l l2.l = some l') : SE X (.BinOp e1 .Add e2 pos) C O O2 (vp (Lst.mk l')) := se_catLt h1 h2 h
theorem so_catF {α : Type} [Rp α] {l l2 : Lst α} {l' : List α} (h1 : SE X e1 C O O1 (vp l)) (h2 : SE X e2 C O1 O2 (vp l2)) (h : extM l.l l2.l = some l') : SO X (.BinOp e1 .Add e2 pos) C O O2 (lstO (l'.map vp)) := so_catLt h1 h2 h
/-- (x,) * k -/
theorem se_repV {α : Type} [Rp α] {a : α} {l : List α} (h1 : SE X e1 C O O1 (vp [a])) (h2 : SE X e2 C O1 O2 (vp k)) (h : repT a k = some l) : SE X (.BinOp e1 .Mult e2 pos) C O O2 (vp l) := se_repTt (fv := vp) h1 h2 h
theorem se_repF {α : Type} [Rp α] {a : α} {l : List α} (h1 : SE X e1 C O O1 (vp (Lst.mk [a]))) (h2 : SE X e2 C O1 O2 (vp k)) (h : repM a k = some l) : SE X (.BinOp e1 .Mult e2 pos) C O O2 (vp (Lst.mk l)) := se_repLt (fv := vp) h1 h2 h
theorem so_repF {α : Type} [Rp α] {a : α} {l : List α} (h1 : SE X e1 C O O1 (vp (Lst.mk [a]))) (h2 : SE X e2 C O1 O2 (vp k)) (h : repM a k = some l) : SO X (.BinOp e1 .Mult e2 pos) C O O2 (lstO (l.map vp)) := so_repLt (fv := vp) h1 h2 h
theorem se_sumF {l : Lst Int} (hm : X.mg "sum" = none) (h : SE X e C O O1 (vp l)) (hc : X.calm = true := by rfl) (hg : Gl X "sum" := by rfl) (hs : starEach [e] X.env = (false, eval e X.env) :: starEach [] X.env := by rfl) : SE X (.Call (.Name "sum" p1) [e] [] pos) C O O1 (vp l.l.sum) := se_sum hm h hc hg hs
theorem se_allF {l : Lst Bool} (hm : X.mg "all" = none) (h : SE X e C O O1 (vp l)) (hc : X.calm = true := by rfl) (hg : Gl X "all" := by rfl) (hs : starEach [e] X.env = (false, eval e X.env) :: starEach [] X.env := by rfl) : SE X (.Call (.Name "all" p1) [e] [] pos) C O O1 (vp (l.l.all id)) := se_all hm h hc hg hs
/-! sources, typed -/
theorem si_V {α : Type} [Rp α] {l : List α} (h : SE X e C O O1 (vp l)) : SI X tg e C O O1 (l.map vp) := si_tup h
theorem si_F {α : Type} [Rp α] {l : Lst α} (h : SE X e C O O1 (vp l)) : SI X tg e C O O1 (l.l.map vp) := si_lst h
theorem rngM_b {lo hi : Int} {l : List Int} (h : rngM lo hi = some l) : ((-1000000 ≤ lo ∧ lo ≤ 1000000) ∧ -1000000 ≤ hi ∧ hi ≤ 1000000) ∧ rangeL lo hi = l := of_if h
theorem si_rng1 {l : List Int} {p1 : Pos} (hm : X.mg "range" = none) (h : SE X e C O O1 (vp i)) (hl : rngM 0 i = some l) (hg : Gl X "range" := by rfl) (ns : starEach [e] X.env = (false, eval e X.env) :: starEach [] X.env := by rfl) (ns2 : starEach [e] X.env = [(false, eval e X.env)] := by rfl) :
    SI X tg (.Call (.Name "range" p1) [e] [] pos) C O O1 (l.map vp) := (rngM_b hl).2 ▸ si_range1 hm h (rngM_b hl).1.2 hg ns ns2
theorem si_rng2 {l : List Int} {p1 : Pos} (hm : X.mg "range" = none) (h1 : SE X e1 C O O1 (vp i)) (h2 : SE X e2 C O1 O2 (vp j)) (hl : rngM i j = some l) (hg : Gl X "range" := by rfl) (ns : starEach [e1, e2] X.env = (false, eval e1 X.env) :: starEach [e2] X.env := by rfl) (ns' : starEach [e2] X.env = (false, eval e2 X.env) :: starEach [] X.env := by rfl)
    (ns2 : starEach [e1, e2] X.env = [(false, eval e1 X.env), (false, eval e2 X.env)] := by rfl) (ns3 : starEach [e2] X.env = [(false, eval e2 X.env)] := by rfl) :
    SI X tg (.Call (.Name "range" p1) [e1, e2] [] pos) C O O2 (l.map vp) := (rngM_b hl).2 ▸ si_range2 hm h1 h2 (rngM_b hl).1 hg ns ns' ns2 ns3
theorem si_zipV {α β : Type} [Rp α] [Rp β] {l : List α} {l2 : List β} {p1 tpos : Pos} {kk : Nat} (hm : X.mg "zip" = none) (h1 : SE X e1 C O O1 (vp l)) (h2 : SE X e2 C O1 O2 (vp l2)) (hg : Gl X "zip" := by rfl) (ns : starEach [e1, e2] X.env = (false, eval e1 X.env) :: starEach [e2] X.env := by rfl) (ns' : starEach [e2] X.env = (false, eval e2 X.env) :: starEach [] X.env := by rfl)
    (hpl : (backTo pos (starEach [e2] X.env)).any (·.1) = false := by rfl) : SI X (.Tuple es kk tpos) (.Call (.Name "zip" p1) [e1, e2] [] pos) C O O2 ((l.zip l2).map vp) := zipP_map l l2 ▸ si_zipT hm h1 h2 hg ns ns' hpl
theorem si_zipF {α β : Type} [Rp α] [Rp β] {l : Lst α} {l2 : Lst β} {p1 tpos : Pos} {kk : Nat} (hm : X.mg "zip" = none) (h1 : SE X e1 C O O1 (vp l)) (h2 : SE X e2 C O1 O2 (vp l2)) (hg : Gl X "zip" := by rfl) (ns : starEach [e1, e2] X.env = (false, eval e1 X.env) :: starEach [e2] X.env := by rfl) (ns' : starEach [e2] X.env = (false, eval e2 X.env) :: starEach [] X.env := by rfl)
    (hpl : (backTo pos (starEach [e2] X.env)).any (·.1) = false := by rfl) : SI X (.Tuple es kk tpos) (.Call (.Name "zip" p1) [e1, e2] [] pos) C O O2 ((l.l.zip l2.l).map vp) := zipP_map l.l l2.l ▸ si_zipL hm h1 h2 hg ns ns' hpl
/-! and, or of total tests -/
theorem sw_andT (h1 : ST X e1 C O O b1) (h2 : SW X (.BoolOp .And (e2 :: es) pos) C O O b2) : SW X (.BoolOp .And (e1 :: e2 :: es) pos) C O O (b1 && b2) :=
  sw_and h1 (fun h => by rw [h]; exact h2) (fun h => by rw [h]; exact ⟨rfl, rfl⟩)
theorem sw_orT (h1 : ST X e1 C O O b1) (h2 : SW X (.BoolOp .Or (e2 :: es) pos) C O O b2) : SW X (.BoolOp .Or (e1 :: e2 :: es) pos) C O O (b1 || b2) :=
  sw_or h1 (fun h => by rw [h]; exact h2) (fun h => by rw [h]; exact ⟨rfl, rfl⟩)
theorem se_andT (h1 : SE X e1 C O O (vp b1)) (h2 : SE X (.BoolOp .And (e2 :: es) pos) C O O (vp b2)) : SE X (.BoolOp .And (e1 :: e2 :: es) pos) C O O (vp (b1 && b2)) :=
  se_and h1 (fun h => by rw [h]; exact h2) (fun h => by rw [h]; exact ⟨rfl, rfl⟩)
theorem se_orT (h1 : SE X e1 C O O (vp b1)) (h2 : SE X (.BoolOp .Or (e2 :: es) pos) C O O (vp b2)) : SE X (.BoolOp .Or (e1 :: e2 :: es) pos) C O O (vp (b1 || b2)) :=
  se_or h1 (fun h => by rw [h]; exact h2) (fun h => by rw [h]; exact ⟨rfl, rfl⟩)
theorem se_ifT {α : Type} [Rp α] {a c : α} (h1 : ST X e1 C O O1 b) (h2 : SE X e2 C O1 O2 (vp a)) (h3 : SE X e3 C O1 O2 (vp c)) : SE X (.IfExp e1 e2 e3 pos) C O O2 (vp (if b = true then a else c)) :=
  se_if h1 (fun h => by rw [if_pos h]; exact h2) (fun h => by rw [if_neg (by rw [h]; decide)]; exact h3)
/-- x is None of what is there -/
theorem se_isNf {α : Type} [Rp α] [Nn α] {a : α} {k : Nat} {pos' : Pos} (h1 : SE X e1 C O O1 (vp a)) : SE X (.Compare e1 [.Is] [.Constant .none k pos'] pos) C O O1 (vp false) := se_isN (se_sm h1)
theorem st_isNf {α : Type} [Rp α] [Nn α] {a : α} {k : Nat} {pos' : Pos} (h1 : SE X e1 C O O1 (vp a)) : ST X (.Compare e1 [.Is] [.Constant .none k pos'] pos) C O O1 false := st_isN (se_sm h1)
theorem se_notNf {α : Type} [Rp α] [Nn α] {a : α} {k : Nat} {pos' : Pos} (h1 : SE X e1 C O O1 (vp a)) : SE X (.Compare e1 [.IsNot] [.Constant .none k pos'] pos) C O O1 (vp true) := se_notN (se_sm h1)
theorem st_notNf {α : Type} [Rp α] [Nn α] {a : α} {k : Nat} {pos' : Pos} (h1 : SE X e1 C O O1 (vp a)) : ST X (.Compare e1 [.IsNot] [.Constant .none k pos'] pos) C O O1 true := st_notN (se_sm h1)
end
end SIM

end
section
namespace SIM
open PySem L2 PyProof.Rows
/-- an end that is known not to be the next statement -/
def dead : Out → Out
  | .nx _ O => .rt ⟨fun _ _ => False, fun _ h => h⟩ O
  | o => o
theorem dead_nn {o : Out} : isNx (dead o) = false := by cases o <;> rfl
theorem dead_post {W : WX} {Φ : Frm} {F : Hp} {D : Ends} {o : Out} (h : o.post W Φ F D) : (dead o).post W Φ F D := by
  cases o with
  | nx C O => exact fun _ _ _ _ _ _ _ z => z.elim
  | rt p O => exact h
  | ro q O => exact h
  | ex e C O => exact h
theorem hu_of {own : List Nat} {C : List Cell} (h : own.all (fun i => match C[i]? with | some .u => true | none => true | _ => false) = true) : ∀ i ∈ own, ∀ c, C[i]? = some c → c = .u := fun i hi c hc => by
  have h1 := List.all_eq_true.mp h i hi
  rw [hc] at h1
  cases c with
  | u => rfl
  | v p => cases h1
  | o j => cases h1
def blank (own : List Nat) (l : List Cell) : List Cell := own.foldl (fun l i => l.set i .u) l
theorem blank_get : ∀ {own : List Nat} {l : List Cell} {i : Nat}, i ∉ own → (blank own l)[i]? = l[i]?
  | [], l, i, _ => rfl
  | j :: own, l, i, h => by
    show (blank own (l.set j .u))[i]? = _
    rw [blank_get (fun z => h (List.mem_cons_of_mem _ z)), List.getElem?_set_ne (fun z => h (by rw [← z]; exact List.mem_cons_self ..))]
theorem hdc_of {α : Type} {own : List Nat} {C : List Cell} {dc : α → List Cell} (h : ∀ x, blank own (dc x) = C) : ∀ x i, i ∉ own → C[i]? = (dc x)[i]? := fun x i hi => by rw [← h x, blank_get hi]
/-! the pool of the laws -/
structure Pool where
  cells : List Int
  at_ : Int
  big : Int
  turn : Int
abbrev poolP (p : Pool) : List VP := [vp (Lst.mk p.cells), vp p.at_, vp p.big, vp p.turn]
/-- the script of a law: it is only read -/
structure Scr where
  l : List Int
theorem sqL_mono {K : PySem.W.Frag} {F F' : Hp} {a : Addr} {xs : List V} (k : Le F F') (h : SqL K F a xs) : SqL K F' a xs := h.imp (fun r => r.imp (k _ _) fun ⟨o, e⟩ => ⟨o, k _ _ e⟩) id
instance [W : Wd] : Rp Scr := ⟨fun s => ⟨fun F v => ∃ a, v = .ref a ∧ SqL W.frag F a (s.l.map V.int), fun k ⟨a, e, h⟩ => ⟨a, e, sqL_mono k h⟩⟩⟩
/-- range(0, n, 2) -/
def rng2M (n : Int) : Option (List Int) := if 0 ≤ n ∧ n ≤ 2000 ∧ n % 2 = 0 then some ((List.range (n / 2).toNat).map fun k : Nat => 2 * (k : Int)) else none
structure ClF (K : PySem.W.Frag) (mg : Str → Option Value) (nm : Str) (Ca : Addr) : Prop where
  g : mg nm = some (.ref Ca)
  cl : Cls K Ca
  ic : C8.InsC K Ca
  rd : ClX.CRead K Ca (.type "type")
section
variable {X : Cx} {W : WX} {C C' C1 C2 : List Cell} {O O' O1 O2 O3 O4 : Ob} {p r : VP} {q q1 : OP} {ps qs : List VP} {tg e e1 e2 e3 e4 : Expr} {es ts : List Expr} {pos p1 p2 p3 : Pos} {x f : Str} {s : Stmt} {ss body : List Stmt} {ns : List Str} {Ca : Addr} {er : Er} {o : Out} {i j k : Int} {b b1 b2 : Bool} {n : Nat}
theorem sb_undead (h : SB X W ss C O (dead o)) : SB X W ss C O o := impSs h fun D σ H ⟨Φ, F, A, E, k⟩ => ⟨Φ, F, A, E, dead_post k⟩
/-- the statement leaves -/
theorem sb_endx (h : SS X W s C O (dead o)) : SB X W (s :: ss) C O o := sb_undead (sb_end h (notNx dead_nn))
theorem sb_endo {q : OP} (h1 : SS X W s C O (.ro q O1)) : SB X W (s :: ss) C O (.ro q O1) := sb_end h1 fun _ _ z => nomatch z
/-- if c: leaves -/
theorem sb_ifL {c : Expr} {s1 : List Stmt} (hc : ST X c C O O1 b) (h1 : b = true → SB X W s1 C O1 (dead o)) (h2 : b = false → SB X W ss C O1 o) : SB X W (.If c s1 [] pos :: ss) C O o := by
  cases b with
  | true => exact sb_endx (ss_if hc h1 (fun z => by cases z))
  | false => exact sb_cons (ss_if hc (fun z => by cases z) (fun z => sb_nil)) (h2 rfl)
theorem sb_ifE {c : Expr} {s1 s2 : List Stmt} (hc : ST X c C O O1 b) (h1 : b = true → SB X W s1 C O1 (dead o)) (h2 : b = false → ∃ C2 O2, SB X W s2 C O1 (.nx C2 O2) ∧ SB X W ss C2 O2 o) : SB X W (.If c s1 s2 pos :: ss) C O o := by
  cases b with
  | true => exact sb_endx (ss_if hc h1 (fun z => by cases z))
  | false =>
    obtain ⟨C2, O2, h3, h4⟩ := h2 rfl
    exact sb_cons (ss_if hc (fun z => by cases z) (fun z => h3)) h4
theorem sb_ifT {c : Expr} {s1 s2 : List Stmt} (hc : ST X c C O O1 b) (h1 : b = true → ∃ C2 O2, SB X W s1 C O1 (.nx C2 O2) ∧ SB X W ss C2 O2 o) (h2 : b = false → SB X W s2 C O1 (dead o)) : SB X W (.If c s1 s2 pos :: ss) C O o := by
  cases b with
  | true =>
    obtain ⟨C2, O2, h3, h4⟩ := h1 rfl
    exact sb_cons (ss_if hc (fun z => h3) (fun z => by cases z)) h4
  | false => exact sb_endx (ss_if hc (fun z => by cases z) h2)
/-- a piece that may leave, then the rest -/
theorem sb_goF {ρ τ : Type} {m : Option (Ctl Empty ρ τ)} {f : τ → Option ρ} {x : ρ} (hm : goF m f = some x) (out : Ctl Empty ρ τ → Out) (cells : τ → List Cell) (obs : τ → Ob) (hS : ∀ c, m = some c → SS X W s C O (out c)) (hn : ∀ s, out (.nx s) = .nx (cells s) (obs s))
    (hr : out (.rt x) = o) (hx : isNx (out (.rt x)) = false) (hk : ∀ s, m = some (.nx s) → f s = some x → SB X W ss (cells s) (obs s) o) : SB X W (s :: ss) C O o := by
  rcases gF hm with ⟨s, h1, h2⟩ | h1
  · exact sb_cons (hn s ▸ hS _ h1) (hk s h1 h2)
  · subst hr
    exact sb_end (hS _ h1) (notNx hx)
theorem sb_goR {ε ρ τ : Type} {m : Option (Ctl ε ρ τ)} {f : τ → Option (Res ε ρ)} {x : Res ε ρ} (hm : goR m f = some x) (out : Ctl ε ρ τ → Out) (cells : τ → List Cell) (obs : τ → Ob) (hS : ∀ c, m = some c → SS X W s C O (out c)) (hn : ∀ s, out (.nx s) = .nx (cells s) (obs s))
    (hr : ∀ r, x = .ok r → out (.rt r) = o) (hx : ∀ r, m = some (.rt r) → isNx (out (.rt r)) = false) (he : ∀ e, x = .er e → out (.ex e) = o) (hx2 : ∀ e, isNx (out (.ex e)) = false) (hk : ∀ s, m = some (.nx s) → f s = some x → SB X W ss (cells s) (obs s) o) : SB X W (s :: ss) C O o := by
  rcases gR hm with ⟨s, h1, h2⟩ | ⟨r, h1, h2⟩ | ⟨e, h1, h2⟩
  · exact sb_cons (hn s ▸ hS _ h1) (hk s h1 h2)
  · rw [← hr r h2]
    exact sb_end (hS _ h1) (notNx (hx r h1))
  · rw [← he e h2]
    exact sb_end (hS _ h1) (notNx (hx2 e))
theorem sb_goP {ε ρ τ : Type} {m : Option (Ctl ε Empty τ)} {f : τ → Option (Res ε ρ)} {x : Res ε ρ} (hm : goP m f = some x) (out : Ctl ε Empty τ → Out) (cells : τ → List Cell) (obs : τ → Ob) (hS : ∀ c, m = some c → SS X W s C O (out c)) (hn : ∀ s, out (.nx s) = .nx (cells s) (obs s))
    (he : ∀ e, x = .er e → out (.ex e) = o) (hx2 : ∀ e, isNx (out (.ex e)) = false) (hk : ∀ s, m = some (.nx s) → f s = some x → SB X W ss (cells s) (obs s) o) : SB X W (s :: ss) C O o := by
  rcases gP hm with ⟨s, h1, h2⟩ | ⟨e, h1, h2⟩
  · exact sb_cons (hn s ▸ hS _ h1) (hk s h1 h2)
  · rw [← he e h2]
    exact sb_end (hS _ h1) (notNx (hx2 e))
theorem sb_goC {ε ρ τ τ' : Type} {m : Option (Ctl ε ρ τ)} {f : τ → Option (Ctl ε ρ τ')} {x : Ctl ε ρ τ'} (hm : goC m f = some x) (out : Ctl ε ρ τ → Out) (cells : τ → List Cell) (obs : τ → Ob) (hS : ∀ c, m = some c → SS X W s C O (out c)) (hn : ∀ s, out (.nx s) = .nx (cells s) (obs s))
    (hr : ∀ r, x = .rt r → out (.rt r) = o) (hx : ∀ r, m = some (.rt r) → isNx (out (.rt r)) = false) (he : ∀ e, x = .ex e → out (.ex e) = o) (hx2 : ∀ e, isNx (out (.ex e)) = false) (hk : ∀ s, m = some (.nx s) → f s = some x → SB X W ss (cells s) (obs s) o) : SB X W (s :: ss) C O o := by
  rcases gC hm with ⟨s, h1, h2⟩ | ⟨r, h1, h2⟩ | ⟨e, h1, h2⟩
  · exact sb_cons (hn s ▸ hS _ h1) (hk s h1 h2)
  · rw [← hr r h2]
    exact sb_end (hS _ h1) (notNx (hx r h1))
  · rw [← he e h2]
    exact sb_end (hS _ h1) (notNx (hx2 e))
theorem al_of_ints {F : Hp} : ∀ ns : List Int, Al F (ns.map V.int) (ns.map vp)
  | [] => .nil
  | n :: ns => .cons rfl (al_of_ints ns)
theorem so_listS [W' : Wd] {z : Scr} (hK : X.K = W'.frag) (hm : X.mg "list" = none) (h : SE X e C O O1 (vp z)) (hg : Gl X "list" := by rfl) (ns : starEach [e] X.env = (false, eval e X.env) :: starEach [] X.env := by rfl) : SO X (.Call (.Name "list" p1) [e] [] pos) C O O1 (lstO (z.l.map vp)) :=
  imp (pe_callTy call_list_of hg hm (by decide +kernel) (pa_cons h pa_nil ns) (he := ns)) fun σ H Q ⟨Φ, F, A, E, w⟩ => ⟨Φ, F, A, E, fun F1 H1 v A1 l1 E1 hv => by
    obtain ⟨a, rfl, hs⟩ := hv
    refine ⟨a, z.l.map V.int, rfl, .inl (by rw [hK]; exact sqL_mono E1.fh hs), fun l hl => ?_⟩
    exact w _ _ _ _ l [l] l1 (E1.newList hl (al_of_ints _)) E1.asl rfl (lastA E1.len)⟩
/-- range(0, n, 2) -/
theorem yld_rng2 {F : Hp} {n : Nat} : Yld F (Itc 0 2 n) (((List.range n).map fun k : Nat => 2 * (k : Int)).map vp) := fun i F' H' l1 l2 => by
  refine ⟨fun e => by rw [List.length_map, List.length_map, List.length_range] at e; show n ≤ i; omega, fun p hp => ?_⟩
  rw [List.getElem?_map, List.getElem?_map] at hp
  have hi : i < n := by
    cases e : (List.range n)[i]? with
    | none => rw [e] at hp; cases hp
    | some m => have := (List.getElem?_eq_some_iff.mp e).1; simpa using this
  rw [List.getElem?_range hi] at hp
  cases hp
  exact ⟨by show i < n; omega, fun x H3 ⟨e1, e2⟩ => .inl ⟨e1, by show x = V.int (2 * (i : Int)); rw [e2]; congr 1; omega⟩⟩
theorem si_rngC {l : List Int} (hm : X.mg "range" = none) (h1 : SE X e1 C O O1 (vp (0 : Int))) (h2 : SE X e2 C O1 O2 (vp j)) (h3 : SE X e3 C O2 O3 (vp (2 : Int))) (hl : rng2M j = some l) (hg : Gl X "range" := by rfl) (ns : starEach [e1, e2, e3] X.env = (false, eval e1 X.env) :: starEach [e2, e3] X.env := by rfl) (ns' : starEach [e2, e3] X.env = (false, eval e2 X.env) :: starEach [e3] X.env := by rfl) (ns'' : starEach [e3] X.env = (false, eval e3 X.env) :: starEach [] X.env := by rfl)
    (hpl : (backTo pos (starEach [e2, e3] X.env)).any (·.1) = false := by rfl) : SI X tg (.Call (.Name "range" p1) [e1, e2, e3] [] pos) C O O3 (l.map vp) := by
  obtain ⟨⟨b1, b2, b3⟩, rfl⟩ := of_if hl
  exact impI (pi_range3 hg hm (pa_cons h1 (pa_cons h2 (pa_cons h3 pa_nil ns'') ns') ns) ns hpl) fun σ H R ⟨Φ, F, A, E, k⟩ => ⟨Φ, F, A, E, fun F1 H1 v A1 l1 E1 hv => ⟨Φ, F1, A1, E1, fun F2 H2 w A2 l2 E2 hw => ⟨Φ, F2, A2, E2, fun F3 H3 u A3 l3 E3 hu =>
    ⟨0, j, 2, (j / 2).toNat, by rw [show v = V.int 0 from hv, show w = V.int j from hw, show u = V.int 2 from hu], by
      have := OWN.rgc_two (n := (j / 2).toNat) (by omega)
      have e : 2 * (((j / 2).toNat : Nat) : Int) = j := by omega
      rw [e] at this; exact this, k _ F3 H3 A3 (l1.trans (l2.trans l3)) E3 yld_rng2⟩⟩⟩⟩
/-- a number of the module -/
theorem se_gi (h : ∃ t, X.mg x = some (.int i t)) (hg : Gl X x := by rfl) (hd : (x == ("__debug__" : Str)) = false := by decide) : SE X (.Name x pos) C O O (vp i) := by
  obtain ⟨t, h⟩ := h
  exact se_glob (v := .int i) h ⟨t, rfl⟩ hg hd
/-- .. of a class -/
theorem se_ck {y : Str} (hm : X.mg y = some (.ref Ca)) (rd : ClX.CRead X.K Ca (.type "type")) (k : ∃ u, ClX.CVal X.K Ca (.type "type") f (.int i) u) (hg : Gl X y := by rfl) (hd : (y == ("__debug__" : Str)) = false := by decide) (hb : attributeBase (.Name y p1) f X.env (eval (.Name y p1) X.env) = eval (.Name y p1) X.env := by rfl) : SE X (.Attribute (.Name y p1) f pos) C O O (vp i) := by
  obtain ⟨u, k⟩ := k
  exact se_cval (v := .int i) (se_glob (v := .ref Ca) hm rfl hg hd) rd k hb
/-- a store at a known place of the pool -/
theorem ss_setixP (n : Nat) {m k : Nat} {t : Bool} {pn sp : Pos} (h : SE X e C O O1 p) (hi : SE X e2 C O1 O2 (vp i)) (hO : O2[m]? = some (some (lstG t ps))) (hk : ixN ps.length i = some k) (hO3 : O2.set m (some (lstG t (ps.set k p))) = O3) (hC : C[n]? = some (.o m) := by rfl) (hN : X.N[n]? = some x := by rfl) (hv : Vis X.env.scope x := by first | exact Or.inl rfl | exact Or.inr (Or.inl rfl) | exact Or.inr (Or.inr rfl))
    (hd : (x == ("__debug__" : Str)) = false := by decide) (hcd : (x == ("__classdict__" : Str)) = false := by decide)
    (ha : ∀ v, assign (.Subscript (.Name x pn) e2 sp) X.env v = (do
      let ov ← holding [v] (eval (.Name x pn) X.env)
      let iv ← holding [v, ov] (eval e2 X.env)
      standAt sp
      holding [v, ov, iv] (setItem ov iv v)
      release [v, ov, iv] []) := by intro _; rfl)
    (hs : swapsWithSole [.Subscript (.Name x pn) e2 sp] e pos.line X.env = pure false := by rfl) (hw : swappedStores [.Subscript (.Name x pn) e2 sp] e X.env = pure none := by rfl)
    (h1 : (assignEach [.Subscript (.Name x pn) e2 sp] X.env).map (·.2) = [assign (.Subscript (.Name x pn) e2 sp) X.env] := by rfl) : SS X W (.Assign [.Subscript (.Name x pn) e2 sp] e pos) C O (.nx C O3) := hO3 ▸ ss_setix n h hi hO hk hC hN hv hd hcd ha hs hw h1
/-- a def's object, moved behind the others -/
theorem Ev.moveLast {Φ : Frm} {F H : Hp} {O : Ob} {A : List (Addr × List Addr)} {a : Addr} {fp : List Addr} {m : Nat} (E : Ev Φ F H [] [] O A) (hO : O[m]? = some (some q)) (hA : A[m]? = some (a, fp)) (hq : ∀ b ∈ fp, Φ.H0 b = none) : Ev Φ F H [] [] (O.set m none ++ [some q]) (A.set m (a, []) ++ [(a, fp)]) := by
  obtain ⟨a', fp', hA', J⟩ := E.ob m q hO
  rw [hA] at hA'; cases hA'
  have hmA : m < A.length := (List.getElem?_eq_some_iff.mp hA).1
  have hmO : m < O.length := by rw [← E.len]; exact hmA
  have E1 : Ev Φ F H [] [] (O.set m none) (A.set m (a, [])) := by
    refine ⟨.nil, by simp [E.len], fun k r e => ?_, fun k e => ?_, fun k l c d f g h1 h2 ne b hb hb' => ?_, ?_, E.fh, E.ff, E.kp, E.nw, E.dm, pm_set E (fun p e => nomatch e)⟩
    · by_cases hk : k = m
      · subst hk; rw [List.getElem?_set_self hmO] at e; cases e
      · rw [List.getElem?_set_ne (Ne.symm hk)] at e
        obtain ⟨c, g, h, K⟩ := E.ob k r e
        exact ⟨c, g, by rw [List.getElem?_set_ne (Ne.symm hk)]; exact h, K⟩
    · by_cases hk : k = m
      · subst hk; exact ⟨a, by rw [List.getElem?_set_self hmA]⟩
      · rw [List.getElem?_set_ne (Ne.symm hk)] at e
        obtain ⟨c, h⟩ := E.no k e
        exact ⟨c, by rw [List.getElem?_set_ne (Ne.symm hk)]; exact h⟩
    · by_cases hk : k = m
      · subst hk; rw [List.getElem?_set_self hmA] at h1; cases h1; exact absurd hb List.not_mem_nil
      · by_cases hl : l = m
        · subst hl; rw [List.getElem?_set_self hmA] at h2; cases h2; exact absurd hb' List.not_mem_nil
        · rw [List.getElem?_set_ne (Ne.symm hk)] at h1
          rw [List.getElem?_set_ne (Ne.symm hl)] at h2
          exact E.dj k l c d f g h1 h2 ne b hb hb'
    · have e : (A.set m (a, [])).map (·.1) = A.map (·.1) := by
        rw [List.map_set]
        refine List.ext_getElem? fun n => ?_
        by_cases hn : n = m
        · subst hn
          rw [List.getElem?_set_self (by simpa using hmA), List.getElem?_map, hA]; rfl
        · rw [List.getElem?_set_ne (Ne.symm hn)]
      rw [e]; exact E.pre
  refine E1.add J.ok (fun b hb => ⟨J.fr b hb, J.al b hb, hq b hb⟩) fun i c g h b hb hb' => ?_
  by_cases hi : i = m
  · subst hi; rw [List.getElem?_set_self hmA] at h; cases h; exact absurd hb' List.not_mem_nil
  · rw [List.getElem?_set_ne (Ne.symm hi)] at h
    exact E.dj i m c a g fp h hA hi b hb' hb
/-- return x, x a list of ours -/
theorem ss_retN (n : Nat) {m : Nat} {pn : Pos} (hq : q.mine = true := by rfl) (hO : O[m]? = some (some q) := by rfl) (hC : C[n]? = some (.o m) := by rfl) (hO2 : (O.set m none).take O2.length = O2 := by rfl) (hN : X.N[n]? = some x := by rfl) (hv : Vis X.env.scope x := by first | exact Or.inl rfl | exact Or.inr (Or.inl rfl) | exact Or.inr (Or.inr rfl)) (hd : (x == ("__debug__" : Str)) = false := by decide)
    (hcd : (x == ("__classdict__" : Str)) = false := by decide) : SS X W (.Return (some (.Name x pn)) pos) C O (.ro q O2) :=
  impS (ps_ret (pe_var hN hv hd hcd)) fun D σ H ⟨Φ, F, A, E, k⟩ => by
    obtain ⟨a, fp, hs, hA, J⟩ := E.obj hC hO
    have hf : ∀ b ∈ fp, Φ.H0 b = none := fun b hb => by
      rcases J.m b hb with z | z
      · rw [hq] at z; cases z.1
      · exact z
    have E2 := E.bare.moveLast hO hA hf
    have e := take_split hO2
    have hl : (O.set m none).length = (A.set m (a, [])).length := by simp [E.len]
    rw [e] at E2 hl
    exact ⟨.ref a, hs, k F H _ _ a fp _ Le.refl E2 (by have := E.asl; rw [← e, List.length_set]; exact this) rfl (by rw [hl]; simp)⟩
/-- the test of an and, an or that raises at once -/
theorem swx_and0 (h : STX X W e1 C O O1 er) : SWX X W (.BoolOp .And (e1 :: e2 :: es) pos) C O O1 er := impW (pw_and h pw_never) fun σ H Q w => w
theorem swx_or0 (h : STX X W e1 C O O1 er) : SWX X W (.BoolOp .Or (e1 :: e2 :: es) pos) C O O1 er := impW (pw_or h pw_never) fun σ H Q w => w
theorem swx_and1 (h : STX X W e1 C O O1 er) : SWX X W (.BoolOp .And [e1] pos) C O O1 er := pw_and1 h
theorem swx_or1 (h : STX X W e1 C O O1 er) : SWX X W (.BoolOp .Or [e1] pos) C O O1 er := pw_or1 h
theorem stx_of (h : SWX X W e C O O1 er) : STX X W e C O O1 er := h.pt
end
end SIM

end
section
namespace SIM
open PySem L2 PyProof.Rows
section
variable {X : Cx} {W : WX} {C C' C1 C2 : List Cell} {O O' O1 O2 O3 O4 : Ob} {p r : VP} {q q1 : OP} {ps qs : List VP} {tg e e1 e2 e3 e4 : Expr} {es ts : List Expr} {pos p1 p2 p3 : Pos} {x f : Str} {s : Stmt} {ss body : List Stmt} {ns : List Str} {Ca : Addr} {er : Er} {o : Out} {i j k : Int} {b b1 b2 : Bool} {n : Nat}
theorem sb_dropx (m : Nat) (h : SB X W ss C O (.ex er C1 O1)) (hm : Nat.ble (m + 1) O1.length = true := by rfl) (hO : O1.set m none = O2 := by rfl) : SB X W ss C O (.ex er C1 O2) :=
  impSs h fun D σ H ⟨Φ, F, A, E, k⟩ => ⟨Φ, F, A, E, fun F' H' σ' A' d O3 l E' hp => by
    obtain ⟨A2, E2⟩ := E'.forget m
    rw [List.set_append_left _ _ (Nat.le_of_ble_eq_true hm), hO] at E2
    exact k F' H' σ' A2 d O3 l E2 hp⟩
/-- x = a new list, where x held one: the new one takes its place -/
theorem ss_rebind (n m : Nat) {q q' : OP} (h : SS X W s C O (.nx C1 (O1 ++ [some q']))) (hO : O1[m]? = some (some q) := by rfl) (hq : q.mine = true := by rfl) (hq' : q'.mine = true := by rfl) (hC : C1[n]? = some (.o O1.length) := by rfl) (hc : (C1.set n .u).all (Cell.nt m) = true := by rfl) (hc2 : (C1.set n .u).all (Cell.lt O1.length) = true := by rfl)
    (hC2 : C1.set n (.o m) = C2 := by rfl) (hO2 : O1.set m (some q') = O2 := by rfl) : SS X W s C O (.nx C2 O2) :=
  impS h fun D σ H ⟨Φ, F, A, E, k⟩ => ⟨Φ, F, A, E, fun F' H' σ' A' l E' => by
    obtain ⟨A2, E2⟩ := E'.rebind hO hq hq' hC hc hc2
    rw [hC2, hO2] at E2
    exact k F' H' σ' A2 l E2⟩
/-- an argument of a class's call raises -/
theorem sx_makeA {m n : Nat} {pn : List Str} {sp : Sp} (hf : Cdef X.prog X.w X.K X.mg X.base m Ca x pn sp) (hr : Room n X.A) (args : SAX X W (e :: es) C O O1 er) (hmn : m + 1 ≤ n := by decide)
    (hg : Gl X x := by rfl) (hdb : (x == ("__debug__" : Str)) = false := by decide) (he : starEach (e :: es) X.env = (false, eval e X.env) :: starEach es X.env := by rfl) (hpl : (backTo pos (starEach es X.env)).any (·.1) = false := by rfl) :
    SX X W (.Call (.Name x p1) (e :: es) [] pos) C O O1 er := by
  obtain ⟨f, fd, M, F, hm, hb⟩ := hf
  exact imp (pe_makeS M F (hr.mono hmn) hg hm hb (Ex := fun _ => E0) (fun σ pins H s e s' I h => passL pins σ H s e s' I h) args hdb he hpl) fun σ H Q w => w
theorem ssx_append {pn ap cp : Pos} {n m : Nat} {t0 : Bool} {ps0 : List VP} (h : SX X W e C O O1 er) (w : Wk C C2) (hO : O1.take O2.length = O2 := by rfl) (hO0 : O[m]? = some (some (lstG t0 ps0)) := by rfl) (hC : C[n]? = some (.o m) := by rfl) (hN : X.N[n]? = some x := by rfl) (hv : Vis X.env.scope x := by first | exact Or.inl rfl | exact Or.inr (Or.inl rfl) | exact Or.inr (Or.inr rfl))
    (hd : (x == ("__debug__" : Str)) = false := by decide) (hcd : (x == ("__classdict__" : Str)) = false := by decide) (hs : swapsWith (.Call (.Attribute (.Name x pn) "append" ap) [e] [] cp) none pos.line X.env = pure false := by rfl)
    (hbase : attributeBase (.Name x pn) "append" X.env (eval (.Name x pn) X.env) = eval (.Name x pn) X.env := by rfl)
    (hfew : ((backTo cp (starEach [e] X.env)).all (fun x => !x.1) && (backToKw cp (keywordEach [] X.env)).all (fun x => x.1.isSome) && decide ([e].length + ([] : List Keyword).length + (if ([] : List Keyword).isEmpty then 0 else 1) < 30)) = true := by rfl)
    (hline : (ap.endLine == cp.line) = true := by rfl) (hst : starEach [e] X.env = (false, eval e X.env) :: starEach [] X.env := by rfl) : SS X W (.Expr (.Call (.Attribute (.Name x pn) "append" ap) [e] [] cp) pos) C O (.ex er C2 O2) :=
  impS (ps_expr (pe_bm PySem.F.plainAttrs_list PySem.F.slot_list_append PySem.F.type_list_append mt_append (pe_var hN hv hd hcd) (pa_cons h pa_nil hst) hbase hfew hline hst) hs) fun D σ H ⟨Φ, F, A, E, w'⟩ => by
    obtain ⟨x, h1, a, fp, rfl, hA⟩ := E.ck.get hC
    obtain ⟨vs0, _, hv0, _⟩ := Ev.slotObj h1 hC hO0 E
    exact ⟨.ref a, h1, .inl ⟨rfl, vs0, SqL.of hv0⟩, Φ, F, A, E, fun F1 H1 A1 d l1 E1 hp => post_ex w' w hO l1 E1 hp⟩
end
/-! methods of the program's classes -/
/-- a method with its promise -/
def Mdef (P : Program) (w : World) (K : PySem.W.Frag) (mg : Str → Option Value) (base : Heap) (k : Nat) (Ca : Addr) (m : Str) (ps : List Str) (sp : Sp) : Prop :=
  ∃ f fd, Cls K Ca ∧ Meth K Ca m f ∧ FnOk P w K mg base (L2.CX P w) k f fd ps sp ∧ Binds K fd ps []
section
variable {X : Cx} {W : WX} {C C' C1 C2 : List Cell} {O O' O1 O2 O3 O4 : Ob} {p r : VP} {q q1 : OP} {ps qs : List VP} {tg e e1 e2 e3 e4 : Expr} {es ts : List Expr} {pos p1 p2 p3 apos : Pos} {x f mm : Str} {s : Stmt} {ss body : List Stmt} {ns : List Str} {Ca : Addr} {er : Er} {o : Out} {i j k : Int} {b b1 b2 : Bool} {n : Nat} {pl : Sem Bool}
theorem takes0 {X : Cx} : Takes X (fun _ _ _ _ => False) := takes_none5
/-- e.m(..), e an instance that never changes -/
theorem se_methD {m n : Nat} {pn : List Str} {js : List Nat} {as : List AC} {ι : Type} {P : ι → Prop} {D0 : ι → List Cell} {O0 : ι → Ob} {r : ι → Ret} (hf : Mdef X.prog X.w X.K X.mg X.base m Ca mm pn (spM P D0 O0 r)) (hr : Room n X.A)
    (i : ι) (hi : P i) (h : SE X e C O O1 (insP Ca ns ps)) (args : SA X (e1 :: es) C O1 O2 as) (hR : r i = .v p O') (ad : AD C js (.v (insP Ca ns ps) :: as) (D0 i)) (hO : O0 i = inO O2 js) (hO2 : outO O2 js O' = O3) (hl0 : ixOf ns mm = none := by decide +kernel) (hmn : m ≤ n := by decide) (nd : js.Nodup := by decide) (hl : O'.length = js.length := by rfl) (hj : ∀ j ∈ js, ∃ p, O2[j]? = some (some p) := by exact hjs rfl)
    (he : starEach (e1 :: es) X.env = (false, eval e1 X.env) :: starEach es X.env := by rfl) (hpl : (backTo pos (starEach es X.env)).any (·.1) = false := by rfl)
    (ht : eval (.Call (.Attribute e mm apos) (e1 :: es) [] pos) X.env = (do
      let ov ← eval e X.env
      standAt apos.atName
      let (f, first) ← holding [ov] (getMethod ov mm pl)
      callWith pos f first (backTo pos (starEach (e1 :: es) X.env)) (backToKw pos (keywordEach [] X.env))) := by rfl) :
    SE X (.Call (.Attribute e mm apos) (e1 :: es) [] pos) C O O3 p := by
  obtain ⟨f, fd, cl, hm, F, hb⟩ := hf
  subst hO2
  exact imp (pe_meth (pl := pl) h cl hm F (hr.mono hmn) hb .nil passL args he hpl ht) fun σ H Q ⟨Φ, F, A, E, w⟩ => ⟨Φ, F, A, E, fun F1 H1 v A1 l1 E1 hv => by
    obtain ⟨a, dx, vs, rfl, hF, al⟩ := id hv
    refine ⟨a, dx, _, rfl, E1.fh _ _ hF, nolookup_zip hl0, Φ, F1, A1, E1, fun F2 H2 ws A2 l2 E2 hw => ⟨i, hi, ?_⟩⟩
    rw [List.append_nil, hO, hR]
    exact call_v E2 hj nd ad (.v (VP.mono _ l2 hv) hw) hl fun F' H' v A' l E' hp => w F' H' v A' (l1.trans (l2.trans l)) E' hp⟩
theorem sx_methD {m n : Nat} {pn : List Str} {js : List Nat} {as : List AC} {ι : Type} {P : ι → Prop} {D0 : ι → List Cell} {O0 : ι → Ob} {r : ι → Ret} (tk : Takes X W) (hf : Mdef X.prog X.w X.K X.mg X.base m Ca mm pn (spM P D0 O0 r)) (hr : Room n X.A)
    (i : ι) (hi : P i) (h : SE X e C O O1 (insP Ca ns ps)) (args : SA X (e1 :: es) C O1 O2 as) (hR : r i = .x er O') (ad : AD C js (.v (insP Ca ns ps) :: as) (D0 i)) (hO : O0 i = inO O2 js) (hO2 : outO O2 js O' = O3) (hl0 : ixOf ns mm = none := by decide +kernel) (hmn : m ≤ n := by decide) (nd : js.Nodup := by decide) (hl : O'.length = js.length := by rfl) (hj : ∀ j ∈ js, ∃ p, O2[j]? = some (some p) := by exact hjs rfl)
    (he : starEach (e1 :: es) X.env = (false, eval e1 X.env) :: starEach es X.env := by rfl) (hpl : (backTo pos (starEach es X.env)).any (·.1) = false := by rfl)
    (ht : eval (.Call (.Attribute e mm apos) (e1 :: es) [] pos) X.env = (do
      let ov ← eval e X.env
      standAt apos.atName
      let (f, first) ← holding [ov] (getMethod ov mm pl)
      callWith pos f first (backTo pos (starEach (e1 :: es) X.env)) (backToKw pos (keywordEach [] X.env))) := by rfl) :
    SX X W (.Call (.Attribute e mm apos) (e1 :: es) [] pos) C O O3 er := by
  obtain ⟨f, fd, cl, hm, F, hb⟩ := hf
  subst hO2
  exact imp (OWN.pe_methW (pl := pl) h cl hm F (hr.mono hmn) hb tk args he hpl ht) fun σ H Q ⟨Φ, F, A, E, w⟩ => ⟨Φ, F, A, E, fun F1 H1 v A1 l1 E1 hv => by
    obtain ⟨a, dx, vs, rfl, hF, al⟩ := id hv
    refine ⟨a, dx, _, rfl, E1.fh _ _ hF, nolookup_zip hl0, Φ, F1, A1, E1, fun F2 H2 ws A2 l2 E2 hw => ⟨i, hi, ?_⟩⟩
    rw [hO, hR]
    exact call_x E2 hj nd ad (.v (VP.mono _ l2 hv) hw) hl fun F' H' A' d l E' hp => w F' H' A' d (l1.trans (l2.trans l)) E' hp⟩
end
end SIM

end
section
namespace SIM
open PySem L2
/-! the pure side: what gives a value -/
def Tot {α : Type} (m : Option α) (P : α → Prop) : Prop := ∃ a, m = some a ∧ P a
section
variable {α β τ ε ρ : Type}
theorem Tot.pure {P : α → Prop} {a : α} (h : P a) : Tot (some a) P := ⟨a, rfl, h⟩
theorem Tot.eq {m : Option α} {a : α} (h : m = some a) : Tot m (fun x => x = a) := ⟨a, h, rfl⟩
theorem Tot.imp {m : Option α} {P Q : α → Prop} (h : Tot m P) (k : ∀ a, P a → Q a) : Tot m Q := let ⟨a, e, p⟩ := h; ⟨a, e, k a p⟩
theorem tbind {m : Option α} {f : α → Option β} {P : α → Prop} {Q : β → Prop} (h : Tot m P) (k : ∀ a, P a → Tot (f a) Q) : Tot (m.bind f) Q := by
  obtain ⟨a, rfl, p⟩ := h
  exact k a p
theorem tbindE {m : Option α} {f : α → Option β} {Q : β → Prop} {a : α} (h : m = some a) (k : Tot (f a) Q) : Tot (m.bind f) Q := by
  subst h
  exact k
theorem tbindR {m : Option (Res ε α)} {f : α → Option (Res ε β)} {P : α → Prop} {Q : Res ε β → Prop} (h : Tot m (fun r => ∃ a, r = .ok a ∧ P a)) (k : ∀ a, P a → Tot (f a) Q) : Tot (bindR m f) Q := by
  obtain ⟨r, rfl, a, rfl, p⟩ := h
  exact k a p
theorem tbindRE {m : Option (Res ε α)} {f : α → Option (Res ε β)} {Q : Res ε β → Prop} {a : α} (h : m = some (.ok a)) (k : Tot (f a) Q) : Tot (bindR m f) Q := by
  subst h
  exact k
theorem tbindX {m : Option (Res ε α)} {f : α → Option (Ctl ε ρ τ)} {P : α → Prop} {Q : Ctl ε ρ τ → Prop} (h : Tot m (fun r => ∃ a, r = .ok a ∧ P a)) (k : ∀ a, P a → Tot (f a) Q) : Tot (bindX m f) Q := by
  obtain ⟨r, rfl, a, rfl, p⟩ := h
  exact k a p
theorem tbindXE {m : Option (Res ε α)} {f : α → Option (Ctl ε ρ τ)} {Q : Ctl ε ρ τ → Prop} {a : α} (h : m = some (.ok a)) (k : Tot (f a) Q) : Tot (bindX m f) Q := by
  subst h
  exact k
theorem tif {c : Prop} [Decidable c] {a b : Option α} {Q : α → Prop} (h1 : c → Tot a Q) (h2 : ¬ c → Tot b Q) : Tot (if c then a else b) Q := by
  by_cases h : c
  · rw [if_pos h]; exact h1 h
  · rw [if_neg h]; exact h2 h
theorem tifp {c : Prop} [Decidable c] {a b : Option α} {Q : α → Prop} (h : c) (h1 : Tot a Q) : Tot (if c then a else b) Q := by rw [if_pos h]; exact h1
theorem tifn {c : Prop} [Decidable c] {a b : Option α} {Q : α → Prop} (h : ¬ c) (h1 : Tot b Q) : Tot (if c then a else b) Q := by rw [if_neg h]; exact h1
/-- a loop: what holds behind i turns -/
theorem tfold {f : α → τ → Option τ} {l : List α} {s0 : τ} (I : Nat → τ → Prop) (h0 : I 0 s0) (hs : ∀ i x s, l[i]? = some x → I i s → Tot (f x s) (I (i + 1))) : Tot (foldM f l s0) (I l.length) := by
  induction l generalizing s0 I with
  | nil => exact ⟨s0, rfl, h0⟩
  | cons x l ih =>
    rw [foldM]
    refine tbind (hs 0 x s0 rfl h0) fun s1 h1 => ?_
    exact ih (I := fun i => I (i + 1)) h1 fun i y s hy hi => hs (i + 1) y s (by rw [List.getElem?_cons_succ]; exact hy) hi
/-- a loop that may leave -/
theorem tloop {f : α → τ → Option (Ctl ε ρ τ)} {l : List α} {s0 : τ} (I : Nat → τ → Prop) (Q : Ctl ε ρ τ → Prop) (h0 : I 0 s0) (hs : ∀ i x s, l[i]? = some x → I i s → Tot (f x s) fun c => match c with | .nx s => I (i + 1) s | c => Q c) (hd : ∀ s, I l.length s → Q (.nx s)) : Tot (loopM f l s0) Q := by
  induction l generalizing s0 I with
  | nil => exact ⟨.nx s0, rfl, hd s0 h0⟩
  | cons x l ih =>
    rw [loopM]
    obtain ⟨c, hc, h1⟩ := hs 0 x s0 rfl h0
    rw [hc]
    cases c with
    | nx s1 => exact ih (I := fun i => I (i + 1)) h1 (fun i y s hy hi => hs (i + 1) y s (by rw [List.getElem?_cons_succ]; exact hy) hi) hd
    | rt r => exact ⟨_, rfl, h1⟩
    | ex e => exact ⟨_, rfl, h1⟩
/-- .. that does not leave -/
theorem tloopN {f : α → τ → Option (Ctl ε ρ τ)} {l : List α} {s0 : τ} (I : Nat → τ → Prop) (h0 : I 0 s0) (hs : ∀ i x s, l[i]? = some x → I i s → Tot (f x s) fun c => ∃ s', c = .nx s' ∧ I (i + 1) s') : Tot (loopM f l s0) fun c => ∃ s, c = .nx s ∧ I l.length s :=
  tloop I _ h0 (fun i x s hx hi => (hs i x s hx hi).imp fun c ⟨s', e, h⟩ => by subst e; exact h) fun s h => ⟨s, rfl, h⟩
theorem twhile {c : τ → Option Bool} {f : τ → Option τ} (I : Nat → τ → Prop) (hs : ∀ n s, I n s → ∃ b, c s = some b ∧ (b = true → ∃ m, m < n ∧ Tot (f s) (I m))) : ∀ {n : Nat} {k : Nat} {s0 : τ}, I n s0 → n < k → Tot (whM c f k s0) fun s => ∃ m, I m s ∧ c s = some false
  | n, 0, s0, _, h => absurd h (Nat.not_lt_zero _)
  | n, k + 1, s0, h0, hk => by
    rw [whM]
    obtain ⟨b, hb, h1⟩ := hs n s0 h0
    rw [hb]
    cases b with
    | false => exact ⟨s0, rfl, n, h0, hb⟩
    | true =>
      obtain ⟨m, e, h2⟩ := h1 rfl
      refine tbind h2 fun s1 h3 => ?_
      exact twhile I hs h3 (by omega)
theorem tcomp {f : α → τ → Option (β × τ)} {l : List α} {s0 : τ} (I : Nat → List β → τ → Prop) (h0 : I 0 [] s0) (hs : ∀ i x ys s, l[i]? = some x → I i ys s → Tot (f x s) fun r => I (i + 1) (ys ++ [r.1]) r.2) : Tot (compM (fun _ _ => some true) f l s0) fun r => I l.length r.1 r.2 := by
  induction l generalizing s0 I with
  | nil => exact ⟨([], s0), rfl, h0⟩
  | cons x l ih =>
    obtain ⟨r, hr, h1⟩ := hs 0 x [] s0 rfl h0
    obtain ⟨q, hq, h2⟩ := ih (s0 := r.2) (I := fun i ys s => I (i + 1) ([r.1] ++ ys) s) h1 fun i y ys s hy hi => by
      have := hs (i + 1) y ([r.1] ++ ys) s (by rw [List.getElem?_cons_succ]; exact hy) hi
      simpa using this
    refine ⟨(r.1 :: q.1, q.2), ?_, h2⟩
    rw [compM]
    dsimp only
    rw [hr]
    dsimp only
    rw [hq]
theorem compM_mapU {f : α → Unit → Option (β × Unit)} {g : α → β} {l : List α} (h : ∀ x ∈ l, f x () = some (g x, ())) : compM (fun _ _ => some true) f l () = some (l.map g, ()) := by
  induction l with
  | nil => rfl
  | cons x l ih =>
    rw [compM]
    dsimp only
    rw [h x (List.mem_cons_self ..)]
    dsimp only
    rw [ih fun y hy => h y (List.mem_cons_of_mem _ hy)]
    rfl
/-- a plain map -/
theorem compM_mapM {f : α → Option β} {g : α → β} {l : List α} (h : ∀ x ∈ l, f x = some (g x)) : compM (fun _ _ => some true) (fun x (_ : Unit) => (f x).bind fun y => some (y, ())) l () = some (l.map g, ()) := by
  induction l with
  | nil => rfl
  | cons x l ih =>
    rw [compM]
    dsimp only
    rw [h x (List.mem_cons_self ..)]
    dsimp only [Option.bind_some]
    rw [ih fun y hy => h y (List.mem_cons_of_mem _ hy)]
    rfl
theorem tgoF {m : Option (Ctl Empty ρ τ)} {f : τ → Option ρ} {P : Ctl Empty ρ τ → Prop} {Q : ρ → Prop} (h : Tot m P) (k : ∀ s, P (.nx s) → Tot (f s) Q) (kr : ∀ r, P (.rt r) → Q r) : Tot (goF m f) Q := by
  obtain ⟨c, rfl, p⟩ := h
  cases c with
  | nx s => exact k s p
  | rt r => exact ⟨r, rfl, kr r p⟩
  | ex e => exact e.elim
theorem tgoR {m : Option (Ctl ε ρ τ)} {f : τ → Option (Res ε ρ)} {P : Ctl ε ρ τ → Prop} {Q : Res ε ρ → Prop} (h : Tot m P) (k : ∀ s, P (.nx s) → Tot (f s) Q) (kr : ∀ r, P (.rt r) → Q (.ok r)) (ke : ∀ e, P (.ex e) → Q (.er e)) : Tot (goR m f) Q := by
  obtain ⟨c, rfl, p⟩ := h
  cases c with
  | nx s => exact k s p
  | rt r => exact ⟨_, rfl, kr r p⟩
  | ex e => exact ⟨_, rfl, ke e p⟩
theorem tgoP {m : Option (Ctl ε Empty τ)} {f : τ → Option (Res ε ρ)} {P : Ctl ε Empty τ → Prop} {Q : Res ε ρ → Prop} (h : Tot m P) (k : ∀ s, P (.nx s) → Tot (f s) Q) (ke : ∀ e, P (.ex e) → Q (.er e)) : Tot (goP m f) Q := by
  obtain ⟨c, rfl, p⟩ := h
  cases c with
  | nx s => exact k s p
  | rt r => exact r.elim
  | ex e => exact ⟨_, rfl, ke e p⟩
theorem tgoC {τ' : Type} {m : Option (Ctl ε ρ τ)} {f : τ → Option (Ctl ε ρ τ')} {P : Ctl ε ρ τ → Prop} {Q : Ctl ε ρ τ' → Prop} (h : Tot m P) (k : ∀ s, P (.nx s) → Tot (f s) Q) (kr : ∀ r, P (.rt r) → Q (.rt r)) (ke : ∀ e, P (.ex e) → Q (.ex e)) : Tot (goC m f) Q := by
  obtain ⟨c, rfl, p⟩ := h
  cases c with
  | nx s => exact k s p
  | rt r => exact ⟨_, rfl, kr r p⟩
  | ex e => exact ⟨_, rfl, ke e p⟩
end
/-! the checked operations where they are defined -/
theorem fits_two {x : Int} {k : Nat} (h : x.natAbs < 2 ^ k) (hk : k ≤ 60000000) : fits x := Nat.lt_of_lt_of_le h (Nat.pow_le_pow_right (by decide) (by rw [bigX_eq]; exact hk))
theorem fits_small {x : Int} (h : x.natAbs < 18446744073709551616) : fits x := fits_two (k := 64) (by omega) (by decide)
theorem mulI_eq {a b : Int} (h1 : fits a) (h2 : fits b) : mulI a b = some (a * b) := if_pos ⟨h1, h2⟩
theorem mulI_small {a b : Int} (h1 : a.natAbs < 18446744073709551616) (h2 : b.natAbs < 18446744073709551616) : mulI a b = some (a * b) := mulI_eq (fits_small h1) (fits_small h2)
theorem modI_eq {a b : Int} (h : 0 < b) : modI a b = some (a % b) := if_pos h
theorem divI_eq {a b : Int} (h : 0 < b) (h2 : b.natAbs < 2 ^ 9000) : divI a b = some (a / b) := if_pos ⟨h, h2⟩
theorem divI_small {a b : Int} (h : 0 < b) (h2 : b.natAbs < 18446744073709551616) : divI a b = some (a / b) := divI_eq h (Nat.lt_of_lt_of_le (by omega : b.natAbs < 2 ^ 64) (Nat.pow_le_pow_right (by decide) (by decide)))
theorem shlI_eq {a b : Int} (h : fits a) (h0 : 0 ≤ b) (h1 : b ≤ 60000000) : shlI a b = some (a * 2 ^ b.toNat) := if_pos ⟨h, h0, h1⟩
theorem shrI_eq {a b : Int} (h : 0 ≤ b) : shrI a b = some (a / 2 ^ b.toNat) := if_pos h
theorem powI_eq {a b : Int} (h : 0 ≤ b) (h1 : b ≤ 1000000) (h2 : a.natAbs < 2 ^ 64) : powI a b = some (a ^ b.toNat) := if_pos ⟨h, h1, h2⟩
theorem oddI_eq {a : Int} (h : 0 ≤ a) : oddI a = some (a % 2) := if_pos h
theorem lenOk_eq {α : Type} {l : List α} (h : l.length ≤ 1000) : lenOk l = some l := if_pos h
theorem appM_eq {α : Type} {l : List α} {x : α} (h : l.length ≤ 1000) : appM l x = some (l ++ [x]) := if_pos h
theorem extM_eq {α : Type} {l l' : List α} (h : l.length + l'.length ≤ 1000) : extM l l' = some (l ++ l') := if_pos h
theorem repM_eq {α : Type} {x : α} {k : Int} (h : -1000 ≤ k ∧ k ≤ 1000) : repM x k = some (List.replicate k.toNat x) := if_pos h
theorem repT_eq {α : Type} {x : α} {k : Int} (h : 1 ≤ k ∧ k ≤ 1000) : repT x k = some (List.replicate k.toNat x) := if_pos h
theorem rngM_eq {lo hi : Int} (h : (-1000000 ≤ lo ∧ lo ≤ 1000000) ∧ -1000000 ≤ hi ∧ hi ≤ 1000000) : rngM lo hi = some (rangeL lo hi) := if_pos h
theorem rng0 {n : Nat} (h : n ≤ 1000000) : rngM 0 (n : Int) = some ((List.range n).map fun k : Nat => (k : Int)) := by
  rw [rngM_eq ⟨by omega, by omega, by omega⟩]
  unfold rangeL
  congr 1
  rw [show ((n : Int) - 0).toNat = n by omega]
  exact List.map_congr_left fun k _ => by omega
theorem rng2M_eq {n : Nat} (h : n ≤ 1000) : rng2M (2 * (n : Int)) = some ((List.range n).map fun k : Nat => 2 * (k : Int)) := by
  unfold rng2M
  rw [if_pos ⟨by omega, by omega, by omega⟩]
  rw [show (2 * (n : Int) / 2).toNat = n by omega]
theorem ixL_nat {α : Type} {l : List α} {n : Nat} {a : α} (h : l[n]? = some a) : ixL l (n : Int) = some a := by
  unfold ixL atI
  have hl := (List.getElem?_eq_some_iff.mp h).1
  rw [show ixN l.length (n : Int) = some n from RD.ixN_nat hl]
  exact h
theorem ixL_int {α : Type} {l : List α} {i : Int} {a : α} (h0 : 0 ≤ i) (h : l[i.toNat]? = some a) : ixL l i = some a := by
  obtain ⟨n, rfl⟩ : ∃ n : Nat, i = n := ⟨i.toNat, by omega⟩
  exact ixL_nat h
theorem ixL_lt {α : Type} {l : List α} {i : Int} (h0 : 0 ≤ i) (h : i < l.length) : ∃ a, ixL l i = some a ∧ l[i.toNat]? = some a := by
  have hl : i.toNat < l.length := by omega
  exact ⟨l[i.toNat], ixL_int h0 (List.getElem?_eq_getElem hl), List.getElem?_eq_getElem hl⟩
/-- an item of a list all of whose items are fine -/
theorem ixL_all {α : Type} {l : List α} {i : Int} (P : α → Prop) (h0 : 0 ≤ i) (h : i < l.length) (hp : ∀ x ∈ l, P x) : Tot (ixL l i) P := by
  obtain ⟨a, e, e2⟩ := ixL_lt h0 h
  exact ⟨a, e, hp a (List.mem_of_getElem? e2)⟩
theorem setM_int {α : Type} {l : List α} {i : Int} {a : α} (h0 : 0 ≤ i) (h : i < l.length) : setM l i a = some (l.set i.toNat a) := by
  obtain ⟨n, rfl⟩ : ∃ n : Nat, i = n := ⟨i.toNat, by omega⟩
  unfold setM
  rw [show ixN l.length (n : Int) = some n from RD.ixN_nat (by omega)]; rfl
theorem range_get {n i : Nat} {x : Int} (h : ((List.range n).map fun k : Nat => (k : Int))[i]? = some x) : i < n ∧ x = (i : Int) := by
  rw [List.getElem?_map, Option.map_eq_some_iff] at h
  obtain ⟨k, h1, rfl⟩ := h
  obtain ⟨h2, h3⟩ := List.getElem?_eq_some_iff.mp h1
  simp at h2 h3
  exact ⟨h2, by omega⟩
theorem Tot.all {α : Type} {m : Option α} {P Q : α → Prop} (h1 : Tot m P) (h2 : Tot m Q) : Tot m fun a => P a ∧ Q a := by
  obtain ⟨a, e, p⟩ := h1
  obtain ⟨b, e2, q⟩ := h2
  rw [e] at e2; cases e2
  exact ⟨a, e, p, q⟩
end SIM

end
section
namespace SIM
open PySem L2
/-! products, bits -/
/-- far above every number that is met -/
noncomputable def far : Nat := 2 ^ bigX
theorem fits_far {n : Nat} (h : n < far) : fits (n : Int) := by show ((n : Int)).natAbs < _; rw [Int.natAbs_natCast]; exact h
theorem two_far {k : Nat} (h : k ≤ 60000000) : 2 ^ k ≤ far := Nat.pow_le_pow_right (by decide) (by rw [bigX_eq]; exact h)
theorem lt_far {n k : Nat} (h : n < 2 ^ k) (hk : k ≤ 60000000) : n < far := Nat.lt_of_lt_of_le h (two_far hk)
theorem small_far {n : Nat} (h : n < 18446744073709551616) : n < far := lt_far (k := 64) (by omega) (by decide)
def prodN : List Nat → Nat
  | [] => 1
  | a :: l => a * prodN l
theorem prodN_app : ∀ l m : List Nat, prodN (l ++ m) = prodN l * prodN m
  | [], m => by rw [List.nil_append, prodN, Nat.one_mul]
  | a :: l, m => by rw [List.cons_append, prodN, prodN, prodN_app l m, Nat.mul_assoc]
theorem prodN_pos : ∀ l : List Nat, (∀ x ∈ l, 1 ≤ x) → 1 ≤ prodN l
  | [], _ => Nat.le_refl _
  | a :: l, h => Nat.mul_pos (h a (List.mem_cons_self ..)) (prodN_pos l fun x hx => h x (List.mem_cons_of_mem _ hx))
theorem mem_le_prodN : ∀ {l : List Nat} {x : Nat}, (∀ x ∈ l, 1 ≤ x) → x ∈ l → x ≤ prodN l
  | a :: l, x, h, hx => by
    have hp := prodN_pos l fun x hx => h x (List.mem_cons_of_mem _ hx)
    have ha := h a (List.mem_cons_self ..)
    rcases List.mem_cons.mp hx with e | hx
    · rw [e]; exact Nat.le_mul_of_pos_right _ hp
    · exact Nat.le_trans (mem_le_prodN (fun x hx => h x (List.mem_cons_of_mem _ hx)) hx) (Nat.le_mul_of_pos_left _ ha)
def two (ns : List Nat) (j : Nat) : Nat := ns.getD (2 * j) 1 * ns.getD (2 * j + 1) 1
def twos (ns : List Nat) (n : Nat) : List Nat := (List.range n).map (two ns)
theorem twos_succ (ns : List Nat) (n : Nat) : twos ns (n + 1) = twos ns n ++ [two ns n] := by
  unfold twos
  rw [List.range_succ, List.map_append]; rfl
theorem two_step {ns : List Nat} {n : Nat} (h : 2 * (n + 1) ≤ ns.length) : ns.drop (2 * n) = ns.getD (2 * n) 1 :: ns.getD (2 * n + 1) 1 :: ns.drop (2 * (n + 1)) := by
  have h1 : 2 * n < ns.length := by omega
  have h2 : 2 * n + 1 < ns.length := by omega
  rw [List.drop_eq_getElem_cons h1, List.drop_eq_getElem_cons h2]
  simp only [List.getD_eq_getElem?_getD, List.getElem?_eq_getElem h1, List.getElem?_eq_getElem h2, Option.getD_some]
  rfl
theorem twos_prod (ns : List Nat) : ∀ n, 2 * n ≤ ns.length → prodN (twos ns n) * prodN (ns.drop (2 * n)) = prodN ns
  | 0, _ => by simp [twos, prodN]
  | n + 1, h => by
    have ih := twos_prod ns n (by omega)
    rw [two_step h, prodN, prodN] at ih
    rw [twos_succ, prodN_app, prodN, prodN, Nat.mul_one, ← ih]
    unfold two
    simp only [Nat.mul_assoc]
theorem getD_mem {ns : List Nat} {i : Nat} (h : i < ns.length) : ns.getD i 1 ∈ ns := by
  rw [List.getD_eq_getElem?_getD, List.getElem?_eq_getElem h]; exact List.getElem_mem h
def pairUp (ns : List Nat) : List Nat := twos ns (ns.length / 2) ++ ns.drop (2 * (ns.length / 2))
theorem pairUp_prod (ns : List Nat) : prodN (pairUp ns) = prodN ns := by
  unfold pairUp
  rw [prodN_app, twos_prod ns _ (by omega)]
theorem pairUp_len (ns : List Nat) : (pairUp ns).length = ns.length - ns.length / 2 := by
  unfold pairUp twos
  simp; omega
theorem pairUp_pos {ns : List Nat} (h : ∀ x ∈ ns, 1 ≤ x) : ∀ x ∈ pairUp ns, 1 ≤ x := by
  intro x hx
  rcases List.mem_append.mp hx with hx | hx
  · obtain ⟨j, hj, rfl⟩ := List.mem_map.mp hx
    have hj := List.mem_range.mp hj
    exact Nat.mul_pos (h _ (getD_mem (by omega))) (h _ (getD_mem (by omega)))
  · exact h x (List.mem_of_mem_drop hx)
def bitsN (x : Nat) : Nat := Builtin.Int.intBits (x : Int)
theorem bits_le {x m : Nat} : bitsN x ≤ m ↔ x < 2 ^ m := by
  unfold bitsN
  rw [PySem.intBits_le_iff, Int.natAbs_natCast]
def dr (x : Nat) : Nat := bitsN x - 256
def kp (x : Nat) : Nat := x / 2 ^ dr x
def kpU (x : Nat) : Nat := if dr x = 0 then kp x else kp x + 1
theorem lt_bits (x : Nat) : x < 2 ^ bitsN x := bits_le.mp (Nat.le_refl _)
theorem kp_lt (x : Nat) : kp x < 2 ^ 256 := by
  unfold kp
  refine Nat.div_lt_of_lt_mul ?_
  rw [← Nat.pow_add]
  exact Nat.lt_of_lt_of_le (lt_bits x) (Nat.pow_le_pow_right (by decide) (by unfold dr; omega))
theorem kp_pos {x : Nat} (h : 1 ≤ x) : 1 ≤ kp x := by
  unfold kp
  refine Nat.div_pos ?_ (Nat.pow_pos (by decide))
  by_cases h0 : dr x = 0
  · rw [h0]; exact h
  · refine Nat.le_of_not_lt fun hl => ?_
    have := bits_le.mpr hl
    unfold dr at *
    omega
theorem kpU_pos {x : Nat} (h : 1 ≤ x) : 1 ≤ kpU x := by
  have := kp_pos h
  unfold kpU; split <;> omega
theorem kpU_le (x : Nat) : kpU x ≤ 2 ^ 256 := by
  have := kp_lt x
  unfold kpU; split <;> omega
theorem kp_below (x : Nat) : kp x * 2 ^ dr x ≤ x := Nat.div_mul_le_self ..
theorem kpU_above (x : Nat) : x ≤ kpU x * 2 ^ dr x := by
  unfold kpU
  split
  · rename_i h
    unfold kp
    rw [h]; simp
  · unfold kp
    rw [Nat.add_mul, Nat.one_mul]
    exact Nat.le_of_lt (Nat.lt_div_mul_add (Nat.pow_pos (by decide)))
def sumD : List Nat → Nat
  | [] => 0
  | x :: l => dr x + sumD l
theorem sumD_app : ∀ l m : List Nat, sumD (l ++ m) = sumD l + sumD m
  | [], m => by rw [List.nil_append, sumD, Nat.zero_add]
  | a :: l, m => by rw [List.cons_append, sumD, sumD, sumD_app l m, Nat.add_assoc]
theorem low_ok : ∀ l : List Nat, prodN (l.map kp) * 2 ^ sumD l ≤ prodN l
  | [] => by simp [prodN, sumD]
  | x :: l => by
    rw [List.map_cons, prodN, prodN, sumD, Nat.pow_add]
    have h1 := kp_below x
    have h2 := low_ok l
    have e : kp x * prodN (l.map kp) * (2 ^ dr x * 2 ^ sumD l) = (kp x * 2 ^ dr x) * (prodN (l.map kp) * 2 ^ sumD l) := by
      simp only [Nat.mul_assoc, Nat.mul_left_comm, Nat.mul_comm]
    rw [e]
    exact Nat.mul_le_mul h1 h2
theorem high_ok : ∀ l : List Nat, prodN l ≤ prodN (l.map kpU) * 2 ^ sumD l
  | [] => by simp [prodN, sumD]
  | x :: l => by
    rw [List.map_cons, prodN, prodN, sumD, Nat.pow_add]
    have h1 := kpU_above x
    have h2 := high_ok l
    have e : kpU x * prodN (l.map kpU) * (2 ^ dr x * 2 ^ sumD l) = (kpU x * 2 ^ dr x) * (prodN (l.map kpU) * 2 ^ sumD l) := by
      simp only [Nat.mul_assoc, Nat.mul_left_comm, Nat.mul_comm]
    rw [e]
    exact Nat.mul_le_mul h1 h2
theorem prodN_le : ∀ (l : List Nat) (B : Nat), (∀ x ∈ l, x ≤ B) → prodN l ≤ B ^ l.length
  | [], _, _ => Nat.le_refl _
  | x :: l, B, h => by
    rw [prodN, List.length_cons, Nat.pow_succ, Nat.mul_comm]
    exact Nat.mul_le_mul (prodN_le l B fun x hx => h x (List.mem_cons_of_mem _ hx)) (h x (List.mem_cons_self ..))
theorem take_next {ns : List Nat} {i : Nat} {x : Nat} (h : ns[i]? = some x) : ns.take (i + 1) = ns.take i ++ [x] := by
  rw [List.take_succ, h]; rfl
def cmpN (x y : Nat) : Int := if x < y then -1 else if y < x then 1 else 0
theorem cmp_sign {x y : Nat} : (if ((x : Nat) : Int) - ((y : Nat) : Int) < 0 then (-1 : Int) else if 0 < ((x : Nat) : Int) - ((y : Nat) : Int) then 1 else 0) = cmpN x y := by
  unfold cmpN
  repeat' split
  all_goals first | rfl | omega
theorem pow_step {b e r : Nat} (h : e % 2 = 1) : (r * b) * (b * b) ^ (e / 2) = r * b ^ e := by
  have e1 : b ^ e = b ^ (2 * (e / 2) + 1) := by congr 1; omega
  rw [e1, Nat.pow_succ, Nat.pow_mul, Nat.pow_two, Nat.mul_assoc, Nat.mul_comm b]
theorem pow_step0 {b e r : Nat} (h : ¬ e % 2 = 1) : r * (b * b) ^ (e / 2) = r * b ^ e := by
  have e1 : b ^ e = b ^ (2 * (e / 2)) := by congr 1; omega
  rw [e1, Nat.pow_mul, Nat.pow_two]
theorem le_pow_self {b e : Nat} (hb : 1 ≤ b) (he : 1 ≤ e) : b ≤ b ^ e := by
  have := Nat.pow_le_pow_right hb he
  rwa [Nat.pow_one] at this
/-- numbers as the program has them -/
def nI (l : List Nat) : List Int := l.map fun n : Nat => (n : Int)
theorem nI_len (l : List Nat) : (nI l).length = l.length := List.length_map ..
theorem nI_app (l m : List Nat) : nI l ++ nI m = nI (l ++ m) := (List.map_append ..).symm
theorem nI_get {l : List Nat} {i : Nat} {x : Int} (h : (nI l)[i]? = some x) : ∃ n, l[i]? = some n ∧ x = (n : Int) := by
  unfold nI at h
  rw [List.getElem?_map, Option.map_eq_some_iff] at h
  obtain ⟨n, h1, h2⟩ := h
  exact ⟨n, h1, h2.symm⟩
theorem ixL_nI {l : List Nat} {i : Nat} (h : i < l.length) : ixL (nI l) (i : Int) = some ((l.getD i 1 : Nat) : Int) := by
  refine ixL_nat ?_
  unfold nI
  rw [List.getElem?_map, List.getElem?_eq_getElem h, List.getD_eq_getElem?_getD, List.getElem?_eq_getElem h]; rfl
theorem cut_drop {α : Type} {l : List α} {n : Nat} (h : n ≤ l.length) : cutP l (some (n : Int)) none = l.drop n := by
  unfold cutP
  have e1 : HT.sIx l.length 0 (some (n : Int)) = n := by
    unfold HT.sIx
    dsimp only
    split <;> omega
  have e2 : HT.sIx l.length l.length none = l.length := rfl
  rw [e1, e2]
  exact List.take_of_length_le (by simp)
/-- the bits beyond the first of each: never more than the product's -/
def sumB : List Nat → Nat
  | [] => 0
  | x :: l => (bitsN x - 1) + sumB l
theorem pow_bits {x : Nat} (h : 1 ≤ x) : 2 ^ (bitsN x - 1) ≤ x := by
  refine Nat.le_of_not_lt fun hl => ?_
  have h1 := bits_le.mpr hl
  have h2 : 1 ≤ bitsN x := by
    refine Nat.le_of_not_lt fun z => ?_
    have : x < 2 ^ 0 := bits_le.mp (by omega)
    omega
  omega
theorem sumB_le : ∀ {l : List Nat}, (∀ x ∈ l, 1 ≤ x) → 2 ^ sumB l ≤ prodN l
  | [], _ => Nat.le_refl _
  | x :: l, h => by
    rw [sumB, prodN, Nat.pow_add]
    exact Nat.mul_le_mul (pow_bits (h x (List.mem_cons_self ..))) (sumB_le fun y hy => h y (List.mem_cons_of_mem _ hy))
theorem sumD_le_B : ∀ l : List Nat, sumD l ≤ sumB l
  | [] => Nat.le_refl _
  | x :: l => by
    rw [sumD, sumB]
    have := sumD_le_B l
    unfold dr; omega
theorem sumD_far {l : List Nat} (h : ∀ x ∈ l, 1 ≤ x) (hf : prodN l < far) : sumD l < 60000000 := by
  have h1 := Nat.lt_of_le_of_lt (sumB_le h) hf
  have h2 : sumB l < bigX := (Nat.pow_lt_pow_iff_right (by decide : 1 < 2)).mp h1
  rw [bigX_eq] at h2
  have := sumD_le_B l
  omega
theorem few_far {l : List Nat} (h : ∀ x ∈ l, x ≤ 2 ^ 256) (hl : l.length ≤ 1000) : prodN l < far := by
  have h1 := prodN_le l _ h
  have h2 : (2 ^ 256) ^ l.length ≤ 2 ^ 256000 := by
    rw [← Nat.pow_mul]
    exact Nat.pow_le_pow_right (by decide) (by omega)
  exact Nat.lt_of_le_of_lt (Nat.le_trans h1 h2) (Nat.pow_lt_pow_right (by decide) (by rw [bigX_eq]; decide))
end SIM

end
section
namespace SIM
open PySem L2 PyProof.Rows
theorem kit_self {K : PySem.W.Frag} {C : Addr} : PySem.W.kitOne K (.ref C) (.ref C) = some true := by
  unfold PySem.W.kitOne
  simp
theorem exm_of {K : PySem.W.Frag} {S c : Addr} {b : Bool} (h1 : PySem.W.subIn K (.ref c) (.type "BaseException") = some true) (h2 : PySem.W.isClsIn K c = true) (h3 : PySem.W.typeIn K (.ref c) = some (.type "type")) (h4 : PySem.W.subIn K (.ref S) (.ref c) = some b) :
    PySem.W.exmOne K (.ref S) (.ref c) = some b := by
  unfold PySem.W.exmOne PySem.W.kitCls
  have h2' : (PySem.W.clsIn K c).isSome = true := h2
  simp [h1, h2', h3, h4]
/-! the law's own promise -/
def spLawB (K : PySem.W.Frag) : Sp := fun vs H Q _ => ∃ (a : Addr) (ns : List Int), vs = [.ref a] ∧ SqL K H a (ns.map V.int) ∧ ns.length ≤ 63 ∧ (∀ z ∈ ns, Builtin.Int.intBits z ≤ 1048576) ∧ ∀ H', Q (.bl true) H'
theorem to0 {P : Program} {w : World} {K : PySem.W.Frag} {mg : Str → Option Value} {base : Heap} {k : Nat} {f : Addr} {fd : FuncData} {ps : List Str} {sp sp' : Sp} (F : FnOk P w K mg base (L2.CX P w) k f fd ps sp) (hl : ∀ vs H Q E, sp' vs H Q E → vs.length = ps.length) (h : ∀ vs H Q E, sp' vs H Q E → sp vs H Q (fun _ _ _ => False)) : FnOk P w K mg base CX0 k f fd ps sp' := by
  refine ⟨hl, fun A outer s H args us vs Q E hr he hb hv hs => codeAny_mono (F.run A outer s H args us vs Q (fun _ _ _ => False) hr he hb hv (h _ _ _ _ hs)) fun r s' hq => ?_⟩
  cases r with
  | ok fl => cases fl <;> exact hq
  | error e =>
    obtain ⟨a, B, H', cls, d, _, _, _, _, _, _, _, z⟩ := hq
    exact z.elim
theorem Ev.script [W : Wd] {H : Hp} {a : Addr} {ns : List Int} (h : SqL W.frag H a (ns.map V.int)) : Ev (frmOf H H []) H H [some (.ref a)] [.v (vp (Scr.mk ns))] [] [] :=
  ⟨.cons ⟨_, rfl, a, rfl, h⟩ .nil, rfl, fun j p e => by simp at e, fun j e => by simp at e, fun i j a c f g h1 => by simp at h1, rfl, Le.refl, Le.refl, fun b o e _ => e, fun b h => .inl h, fun b h => h, fun j p e => by simp at e⟩
theorem law_end [Wd] {P : Program} {w : World} {K : PySem.W.Frag} {mg : Str → Option Value} {base : Heap} {k : Nat} {f : Addr} {fd : FuncData} {m : Scr → Option (Res Err Bool)} (hK : K = Wd.frag)
    (F : FnOk P w K mg base (L2.CX P w) k f fd ["_law_script"] (spM (ι := Scr × Res Err Bool) (fun i => m i.1 = some i.2) (fun i => [.v (vp i.1)]) (fun i => []) (fun i => match i.2 with | .ok r_ => Ret.v (vp r_) [] | .er e_ => Ret.x (erOf e_) [])))
    (hm : ∀ z : Scr, z.l.length ≤ 63 → (∀ c ∈ z.l, Builtin.Int.intBits c ≤ 1048576) → m z = some (.ok true)) : FnOk P w K mg base CX0 k f fd ["_law_script"] (spLawB K) :=
  to0 F (fun vs H Q E ⟨a, ns, e, _⟩ => by rw [e]; rfl) fun vs H Q E ⟨a, ns, e, hs, hl, hb, hq⟩ => by
    subst e
    subst hK
    exact ⟨(⟨ns⟩, .ok true), hm ⟨ns⟩ hl hb, H, [], Ev.script hs, fun F' H' v A' _ hv => by cases (show v = V.bl true from hv); exact hq H'⟩
theorem law_endT [Wd] {P : Program} {w : World} {K : PySem.W.Frag} {mg : Str → Option Value} {base : Heap} {k : Nat} {f : Addr} {fd : FuncData} {m : Scr → Option Bool} (hK : K = Wd.frag)
    (F : FnOk P w K mg base (L2.CX P w) k f fd ["_law_script"] (spM (ι := Scr × Bool) (fun i => m i.1 = some i.2) (fun i => [.v (vp i.1)]) (fun i => []) (fun i => Ret.v (vp i.2) [])))
    (hm : ∀ z : Scr, z.l.length ≤ 63 → (∀ c ∈ z.l, Builtin.Int.intBits c ≤ 1048576) → m z = some true) : FnOk P w K mg base CX0 k f fd ["_law_script"] (spLawB K) :=
  to0 F (fun vs H Q E ⟨a, ns, e, _⟩ => by rw [e]; rfl) fun vs H Q E ⟨a, ns, e, hs, hl, hb, hq⟩ => by
    subst e
    subst hK
    exact ⟨(⟨ns⟩, true), hm ⟨ns⟩ hl hb, H, [], Ev.script hs, fun F' H' v A' _ hv => by cases (show v = V.bl true from hv); exact hq H'⟩
end SIM

end
section
namespace SIM
open PySem L2 PyProof.Rows
/-! try, in the mirrors -/
def Err.cls : Err → Ec
  | .e c => c
/-- does the clause of the class c catch e -/
def catches (c : Ec) (e : Err) : Bool := decide (e.cls = c) || decide (c = .wash)
def tryM {ε ρ τ : Type} (mb : Option (Ctl Err ρ τ)) (hd : Err → Option (Ctl ε ρ τ)) : Option (Ctl ε ρ τ) := mb.bind fun c => match c with
  | .nx s => some (.nx s)
  | .rt r => some (.rt r)
  | .ex e => hd e
section
variable {X : Cx} {W : WX} {C C' C1 C2 : List Cell} {O O' O1 O2 O3 O4 : Ob} {p r : VP} {q q1 : OP} {ps qs : List VP} {tg e e1 e2 e3 e4 : Expr} {es ts : List Expr} {pos p1 p2 p3 np pos' : Pos} {x f : Str} {s b0 : Stmt} {ss body suite : List Stmt} {ns : List Str} {Ca : Addr} {er : Er} {o : Out} {i j k : Int} {b b1 b2 : Bool} {n : Nat} {h0 : ExceptHandler} {hds : List ExceptHandler}
theorem pg_never {X : Cx} {e : Expr} : PG X e (fun _ _ _ _ => False) := ⟨fun _ _ _ _ _ _ _ _ _ h => h.elim⟩
theorem names_own (hg : X.mg x = some (.ref Ca)) (g : Gl X x := by rfl) (hd : (x == ("__debug__" : Str)) = false := by decide) : Names X x (.ref Ca) := ⟨g, hd, .inl hg⟩
theorem ss_tryM [Wd] {ε ρ τ : Type} {mb : Option (Ctl Err ρ τ)} {hd : Err → Option (Ctl ε ρ τ)} {c : Ctl ε ρ τ} {out : Ctl ε ρ τ → Out} {outB : Ctl Err ρ τ → Out} (tk : Takes X W) (hq : tryM mb hd = some c) (hh : HdN X (h0 :: hds))
    (hnx : ∀ s, outB (.nx s) = out (.nx s) ∧ isEx (out (.nx s)) = false) (hrt : ∀ r, outB (.rt r) = out (.rt r) ∧ isEx (out (.rt r)) = false) (hex : ∀ e, outB (.ex e) = .ex (erOf e) C1 O1)
    (hb : ∀ cb, mb = some cb → ∀ (W' : WX) (pn : List (Addr × Obj)) (xe : Value → Shared → Prop), Takes (X.tr pn xe) W' → PassesOwn (model X.prog X.w) X.A X.env xe → SB (X.tr pn xe) W' body C O (outB cb))
    (hs : ∀ e c, hd e = some c → Hm X W (erOf e) C1 O1 (out c) (h0 :: hds)) (hl1 : O1.length = O.length := by rfl) (hC : C1.all (Cell.lt O1.length) = true := by rfl) (hst : X.stack = X.env :: X.outer := by rfl) (hf : X.env.frame = some X.env.locals := by rfl) :
    SS X W (.Try body (h0 :: hds) [] [] pos) C O (out c) := by
  obtain ⟨cb, h1, h2⟩ := bnd hq
  have hB := hb cb h1
  cases cb with
  | nx s => cases h2; rw [(hnx s).1] at hB; exact ss_try tk hh hB (hnx s).2 hst hf
  | rt r => cases h2; rw [(hrt r).1] at hB; exact ss_try tk hh hB (hrt r).2 hst hf
  | ex e => rw [hex e] at hB; exact ss_tryx tk (hs e c h2) hB hl1 hC hst hf
theorem hm_if [Wd] {ε ρ τ : Type} {prs : Err → Bool} {ec : Ec} {er : Err} {A B : Option (Ctl ε ρ τ)} {cc : Ctl ε ρ τ} {o : Out} (y : ∀ e, prs e = true → PySem.W.exmOne X.K (.ref (erOf e).cls) (.ref (Wd.er ec)) = some (catches ec e)) (hp : prs er = true) (hh : (if catches ec er = true then A else B) = some cc) (hc : Names X x (.ref (Wd.er ec)))
    (h1 : A = some cc → ∀ (a : Addr) (oe : Obj) (cls : Value) (d : Option Addr) (pn : List (Addr × Obj)), SB (X.suite a ((a, oe) :: pn)) W (b0 :: suite) C1 O1 o) (h2 : B = some cc → Hm X W (erOf er) C1 O1 o hds) (r : HdN X hds) :
    Hm X W (erOf er) C1 O1 o (.ExceptHandler (some (.Name x np)) none (b0 :: suite) pos' :: hds) := by
  cases hcc : catches ec er with
  | true => exact .hit hc (by rw [y er hp, hcc]) (h1 (ifp hh hcc)) r
  | false => exact .miss hc (by rw [y er hp, hcc]) (h2 (ifb hh hcc))
end
end SIM

end
section
namespace SIM
open PySem L2 PyProof.Rows
/-! operators that the program's classes define -/
section
variable {X : Cx} {W : WX} {C C' C1 C2 : List Cell} {O O' O1 O2 O3 O4 : Ob} {p r : VP} {q q1 : OP} {ps qs : List VP} {tg e e1 e2 e3 e4 : Expr} {es ts : List Expr} {pos p1 p2 p3 apos : Pos} {x f mm : Str} {s : Stmt} {ss body : List Stmt} {ns ns2 : List Str} {Ca Cb : Addr} {er : Er} {o : Out} {i j k : Int} {b b1 b2 : Bool} {n : Nat} {pl : Sem Bool} {ta tb : TE}
/-- x op y by the own class's def -/
def rOwnCS (Ca Cb : Addr) (sp : Sp) (W : WX) : L2.St → R2 := fun σ x y H Q => ∃ a dx fs b dy gs, x = .ref a ∧ y = .ref b ∧ H a = some (.ins Ca dx fs) ∧ H b = some (.ins Cb dy gs) ∧ sp [x, y] H Q (WE W σ)
theorem ops_ownC {m : Nat} {fd : FuncData} {pn : List Str} {sp : Sp} {g : Addr} {op : CmpOp} (hop : ∀ a b, compareOp op a b = richCompare op a b) (hs : PySem.W.findIn X.K (.ref Ca) (cmpInfo op).2.1 = some (some (.ref g))) (hf : PySem.W.isFn X.K (.ref g) = true)
    (F : FnOk X.prog X.w X.K X.mg X.base (L2.CX X.prog X.w) m g fd pn sp) (hr : Room m X.A) (hb : Binds X.K fd pn []) (tk : Takes X W) : OWN.OpRS X (compareOp op) (rOwnCS Ca Ca sp W) := by
  intro pins s σ H x y v u Q I rx ry h
  obtain ⟨a, dx, fs, b, dy, gs, rfl, rfl, ha, hb', q⟩ := h
  cases (show v = Value.ref a from rx)
  cases (show u = Value.ref b from ry)
  obtain ⟨mA, O, _⟩ := ins_get I.hok ha
  obtain ⟨od, J, _⟩ := O.look
  obtain ⟨mA', O', _⟩ := ins_get I.hok hb'
  obtain ⟨od', J', _⟩ := O'.look
  obtain ⟨m, hF⟩ := I.fr
  rw [hop]
  refine PySem.W.cmp_K (op := op) (tb := .ref Ca) hr.units0 hF I.ok.mod.kin J J'.type (by unfold PySem.W.notFirst; simp) hs hf ?_
  exact wpAny_mono (run_fnS (us := [.ref a, .ref b]) (vs := [.ref a, .ref b]) (E := WE W) F hr hb (passAt tk σ) I (.cons rfl (.cons rfl .nil)) q) (fun w s' z => OWN.back z) fun _ _ x => x
theorem pe_cmpS {op : CmpOp} {r : L2.St → R2} (ho : OWN.OpRS X (compareOp op) r) (ha : PE X e1 ta) (hb : PE X e2 tb) (hm : behindInMarks op e2 = false) : PE X (.Compare e1 [op] [e2] pos) (OWN.tOpS r ta tb) := by
  refine ⟨fun pins s σ H Q I h => ?_⟩
  exact wpAny_Compare1 (binT ha hb I h fun v u s2 x y H2 I2 rx ry q => ho pins s2 σ H2 x y v u Q I2 rx ry q) hm
theorem pt_cmpS {op : CmpOp} {r : L2.St → R2} (ho : OWN.OpRS X (compareOp op) r) (ha : PE X e1 ta) (hb : PE X e2 tb) (hm : behindInMarks op e2 = false) : PT X (.Compare e1 [op] [e2] pos) (tTest (OWN.tOpS r ta tb)) := by
  refine ⟨fun pins s σ H Q I h => ?_⟩
  refine wpAny_isTrue_Compare1 (thn (ha.run pins s σ H _ I h) fun v s1 ⟨x, H1, I1, r1, q1⟩ => thn (hb.run pins s1 σ H1 _ I1 q1) fun u s2 ⟨y, H2, I2, r2, q2⟩ =>
    thn (ho pins s2 σ H2 x y v u _ I2 r1 r2 q2) fun c s3 ⟨z, H3, I3, r3, k, e, q3⟩ => ?_) hm
  subst e
  cases r3
  exact wpAny_truthy_bool ⟨H3, I3, q3⟩
/-- a op b, both instances that never change -/
theorem cmpO_core {m n : Nat} {pn : List Str} {ι : Type} {P : ι → Prop} {D0 : ι → List Cell} {O0 : ι → Ob} {r : ι → Ret} {op : CmpOp} (hf : Mdef X.prog X.w X.K X.mg X.base m Ca (cmpInfo op).2.1 pn (spM P D0 O0 r)) (hr : Room n X.A)
    (hop : ∀ a b, compareOp op a b = richCompare op a b) (hmn : m ≤ n) (W : WX) (tk : Takes X W) : ∃ sp, sp = spM P D0 O0 r ∧ OWN.OpRS X (compareOp op) (rOwnCS Ca Ca sp W) := by
  obtain ⟨f, fd, cl, hm, F, hb⟩ := hf
  exact ⟨_, rfl, ops_ownC hop hm.at_ hm.fn F (hr.mono hmn) hb tk⟩
theorem se_cmpO {m n : Nat} {pn : List Str} {ι : Type} {P : ι → Prop} {D0 : ι → List Cell} {O0 : ι → Ob} {r : ι → Ret} {op : CmpOp} (hf : Mdef X.prog X.w X.K X.mg X.base m Ca (cmpInfo op).2.1 pn (spM P D0 O0 r)) (hr : Room n X.A)
    (i : ι) (hi : P i) (h1 : SE X e1 C O O1 (insP Ca ns ps)) (h2 : SE X e2 C O1 O2 (insP Ca ns2 qs)) (hR : r i = .v p []) (hD : D0 i = [.v (insP Ca ns ps), .v (insP Ca ns2 qs)] := by rfl) (hO : O0 i = [] := by rfl)
    (hop : ∀ a b, compareOp op a b = richCompare op a b := by intros; rfl) (hmn : m ≤ n := by decide) (hmk : behindInMarks op e2 = false := by exact nomark _) :
    SE X (.Compare e1 [op] [e2] pos) C O O2 p := by
  obtain ⟨_, rfl, ho⟩ := cmpO_core hf hr hop hmn (fun _ _ _ _ => False) takes0
  refine imp (pe_cmpS ho h1 h2 hmk) fun σ H Q ⟨Φ, F, A, E, w⟩ => ⟨Φ, F, A, E, fun F1 H1 v A1 l1 E1 hv => ⟨Φ, F1, A1, E1, fun F2 H2 u A2 l2 E2 hu => ?_⟩⟩
  obtain ⟨a, dx, vs, rfl, hF, al⟩ := id hv
  obtain ⟨b, dy, us, rfl, hF', al'⟩ := id hu
  refine ⟨a, dx, _, b, dy, _, rfl, rfl, E2.fh _ _ (l2 _ _ hF), E2.fh _ _ hF', i, hi, ?_⟩
  rw [hD, hO, hR]
  have hvv : Aa F2 σ [.ref a, .ref b] [.v (insP Ca ns ps), .v (insP Ca ns2 qs)] := .v (VP.mono _ l2 hv) (.v hu .nil)
  exact call_v (js := []) E2 (fun j hj => absurd hj List.not_mem_nil) List.nodup_nil (.v (.v .nil)) hvv rfl fun F' H' v A' l E' hp => w F' H' v A' (l1.trans (l2.trans l)) E' hp
theorem st_cmpO {m n : Nat} {pn : List Str} {ι : Type} {P : ι → Prop} {D0 : ι → List Cell} {O0 : ι → Ob} {r : ι → Ret} {op : CmpOp} (hf : Mdef X.prog X.w X.K X.mg X.base m Ca (cmpInfo op).2.1 pn (spM P D0 O0 r)) (hr : Room n X.A)
    (i : ι) (hi : P i) (h1 : SE X e1 C O O1 (insP Ca ns ps)) (h2 : SE X e2 C O1 O2 (insP Ca ns2 qs)) (hR : r i = .v (vp b) []) (hD : D0 i = [.v (insP Ca ns ps), .v (insP Ca ns2 qs)] := by rfl) (hO : O0 i = [] := by rfl)
    (hop : ∀ a b, compareOp op a b = richCompare op a b := by intros; rfl) (hmn : m ≤ n := by decide) (hmk : behindInMarks op e2 = false := by exact nomark _) :
    ST X (.Compare e1 [op] [e2] pos) C O O2 b := by
  obtain ⟨_, rfl, ho⟩ := cmpO_core hf hr hop hmn (fun _ _ _ _ => False) takes0
  refine impT (pt_cmpS ho h1 h2 hmk) fun σ H Q ⟨Φ, F, A, E, w⟩ => ⟨Φ, F, A, E, fun F1 H1 v A1 l1 E1 hv => ⟨Φ, F1, A1, E1, fun F2 H2 u A2 l2 E2 hu => ?_⟩⟩
  obtain ⟨a, dx, vs, rfl, hF, al⟩ := id hv
  obtain ⟨b', dy, us, rfl, hF', al'⟩ := id hu
  refine ⟨a, dx, _, b', dy, _, rfl, rfl, E2.fh _ _ (l2 _ _ hF), E2.fh _ _ hF', i, hi, ?_⟩
  rw [hD, hO, hR]
  have hvv : Aa F2 σ [.ref a, .ref b'] [.v (insP Ca ns ps), .v (insP Ca ns2 qs)] := .v (VP.mono _ l2 hv) (.v hu .nil)
  exact call_v (js := []) E2 (fun j hj => absurd hj List.not_mem_nil) List.nodup_nil (.v (.v .nil)) hvv rfl fun F' H' v A' l E' hp => ⟨b, hp, w F' H' A' (l1.trans (l2.trans l)) E'⟩
theorem sx_cmpO {m n : Nat} {pn : List Str} {ι : Type} {P : ι → Prop} {D0 : ι → List Cell} {O0 : ι → Ob} {r : ι → Ret} {op : CmpOp} (tk : Takes X W) (hf : Mdef X.prog X.w X.K X.mg X.base m Ca (cmpInfo op).2.1 pn (spM P D0 O0 r)) (hr : Room n X.A)
    (i : ι) (hi : P i) (h1 : SE X e1 C O O1 (insP Ca ns ps)) (h2 : SE X e2 C O1 O2 (insP Ca ns2 qs)) (hR : r i = .x er []) (hD : D0 i = [.v (insP Ca ns ps), .v (insP Ca ns2 qs)] := by rfl) (hO : O0 i = [] := by rfl)
    (hop : ∀ a b, compareOp op a b = richCompare op a b := by intros; rfl) (hmn : m ≤ n := by decide) (hmk : behindInMarks op e2 = false := by exact nomark _) :
    SX X W (.Compare e1 [op] [e2] pos) C O O2 er := by
  obtain ⟨_, rfl, ho⟩ := cmpO_core hf hr hop hmn W tk
  refine imp (pe_cmpS ho h1 h2 hmk) fun σ H Q ⟨Φ, F, A, E, w⟩ => ⟨Φ, F, A, E, fun F1 H1 v A1 l1 E1 hv => ⟨Φ, F1, A1, E1, fun F2 H2 u A2 l2 E2 hu => ?_⟩⟩
  obtain ⟨a, dx, vs, rfl, hF, al⟩ := id hv
  obtain ⟨b, dy, us, rfl, hF', al'⟩ := id hu
  refine ⟨a, dx, _, b, dy, _, rfl, rfl, E2.fh _ _ (l2 _ _ hF), E2.fh _ _ hF', i, hi, ?_⟩
  rw [hD, hO, hR]
  have hvv : Aa F2 σ [.ref a, .ref b] [.v (insP Ca ns ps), .v (insP Ca ns2 qs)] := .v (VP.mono _ l2 hv) (.v hu .nil)
  exact call_x (js := []) E2 (fun j hj => absurd hj List.not_mem_nil) List.nodup_nil (.v (.v .nil)) hvv rfl fun F' H' A' d l E' hp => w F' H' A' d (l1.trans (l2.trans l)) E' hp
/-- a raising comparison as a test -/
theorem stx_cmpO {m n : Nat} {pn : List Str} {ι : Type} {P : ι → Prop} {D0 : ι → List Cell} {O0 : ι → Ob} {r : ι → Ret} {op : CmpOp} (tk : Takes X W) (hf : Mdef X.prog X.w X.K X.mg X.base m Ca (cmpInfo op).2.1 pn (spM P D0 O0 r)) (hr : Room n X.A)
    (i : ι) (hi : P i) (h1 : SE X e1 C O O1 (insP Ca ns ps)) (h2 : SE X e2 C O1 O2 (insP Ca ns2 qs)) (hR : r i = .x er []) (hD : D0 i = [.v (insP Ca ns ps), .v (insP Ca ns2 qs)] := by rfl) (hO : O0 i = [] := by rfl)
    (hop : ∀ a b, compareOp op a b = richCompare op a b := by intros; rfl) (hmn : m ≤ n := by decide) (hmk : behindInMarks op e2 = false := by exact nomark _) :
    STX X W (.Compare e1 [op] [e2] pos) C O O2 er := by
  obtain ⟨_, rfl, ho⟩ := cmpO_core hf hr hop hmn W tk
  refine impT (pt_cmpS ho h1 h2 hmk) fun σ H Q ⟨Φ, F, A, E, w⟩ => ⟨Φ, F, A, E, fun F1 H1 v A1 l1 E1 hv => ⟨Φ, F1, A1, E1, fun F2 H2 u A2 l2 E2 hu => ?_⟩⟩
  obtain ⟨a, dx, vs, rfl, hF, al⟩ := id hv
  obtain ⟨b, dy, us, rfl, hF', al'⟩ := id hu
  refine ⟨a, dx, _, b, dy, _, rfl, rfl, E2.fh _ _ (l2 _ _ hF), E2.fh _ _ hF', i, hi, ?_⟩
  rw [hD, hO, hR]
  have hvv : Aa F2 σ [.ref a, .ref b] [.v (insP Ca ns ps), .v (insP Ca ns2 qs)] := .v (VP.mono _ l2 hv) (.v hu .nil)
  exact call_x (js := []) E2 (fun j hj => absurd hj List.not_mem_nil) List.nodup_nil (.v (.v .nil)) hvv rfl fun F' H' A' d l E' hp => w F' H' A' d (l1.trans (l2.trans l)) E' hp
/-! n * a, a * n -/
theorem mulL_core {m n : Nat} {pn : List Str} {ι : Type} {P : ι → Prop} {D0 : ι → List Cell} {O0 : ι → Ob} {r : ι → Ret} {f1 f2 : Addr} (M : OWN.MulC X.K Ca f1 f2) (hf : Mdef X.prog X.w X.K X.mg X.base m Ca "__mul__" pn (spM P D0 O0 r)) (hr : Room n X.A)
    (hmn : m ≤ n) (W : WX) (tk : Takes X W) : ∃ sp, sp = spM P D0 O0 r ∧ OWN.OpRS X (binaryOp .Mult) (OWN.rOwnS Ca sp W) := by
  obtain ⟨f, fd, cl, hm, F, hb⟩ := hf
  have e : f1 = f := by
    have h1 := M.mu
    have h2 := hm.at_
    rw [show PySem.dunder "mul" = ("__mul__" : Str) from by decide +kernel] at h1
    rw [h1] at h2
    exact Value.ref.inj (Option.some.inj (Option.some.inj h2))
  subst e
  exact ⟨_, rfl, OWN.ops_mulL M F (hr.mono hmn) hb tk⟩
theorem mulR_core {m n : Nat} {pn : List Str} {ι : Type} {P : ι → Prop} {D0 : ι → List Cell} {O0 : ι → Ob} {r : ι → Ret} {f1 f2 : Addr} (M : OWN.MulC X.K Ca f1 f2) (hf : Mdef X.prog X.w X.K X.mg X.base m Ca "__rmul__" pn (spM P D0 O0 r)) (hr : Room n X.A)
    (hmn : m ≤ n) (W : WX) (tk : Takes X W) : ∃ sp, sp = spM P D0 O0 r ∧ OWN.OpRS X (binaryOp .Mult) (OWN.rOwnRS Ca sp W) := by
  obtain ⟨f, fd, cl, hm, F, hb⟩ := hf
  have e : f2 = f := by
    have h1 := M.rm
    have h2 := hm.at_
    rw [show PySem.dunderR "mul" = ("__rmul__" : Str) from by decide +kernel] at h1
    rw [h1] at h2
    exact Value.ref.inj (Option.some.inj (Option.some.inj h2))
  subst e
  exact ⟨_, rfl, OWN.ops_mulR M F (hr.mono hmn) hb tk⟩
theorem se_mulO {m n : Nat} {pn : List Str} {ι : Type} {P : ι → Prop} {D0 : ι → List Cell} {O0 : ι → Ob} {r : ι → Ret} (M : ∃ f1 f2, OWN.MulC X.K Ca f1 f2) (hf : Mdef X.prog X.w X.K X.mg X.base m Ca "__mul__" pn (spM P D0 O0 r)) (hr : Room n X.A)
    (i : ι) (hi : P i) (h1 : SE X e1 C O O1 (insP Ca ns ps)) (h2 : SE X e2 C O1 O2 (vp k)) (hR : r i = .v p []) (hD : D0 i = [.v (insP Ca ns ps), .v (vp k)] := by rfl) (hO : O0 i = [] := by rfl) (hmn : m ≤ n := by decide) :
    SE X (.BinOp e1 .Mult e2 pos) C O O2 p := by
  obtain ⟨f1, f2, M⟩ := M
  obtain ⟨_, rfl, ho⟩ := mulL_core M hf hr hmn (fun _ _ _ _ => False) takes0
  refine imp (OWN.pe_opS ho h1 h2) fun σ H Q ⟨Φ, F, A, E, w⟩ => ⟨Φ, F, A, E, fun F1 H1 v A1 l1 E1 hv => ⟨Φ, F1, A1, E1, fun F2 H2 u A2 l2 E2 hu => ?_⟩⟩
  obtain ⟨a, dx, vs, rfl, hF, al⟩ := id hv
  have hu' : u = .int k := hu
  refine ⟨a, dx, _, k, rfl, hu', E2.fh _ _ (l2 _ _ hF), i, hi, ?_⟩
  rw [hD, hO, hR]
  have hvv : Aa F2 σ [.ref a, u] [.v (insP Ca ns ps), .v (vp k)] := .v (VP.mono _ l2 hv) (.v hu .nil)
  exact call_v (js := []) E2 (fun j hj => absurd hj List.not_mem_nil) List.nodup_nil (.v (.v .nil)) hvv rfl fun F' H' v A' l E' hp => w F' H' v A' (l1.trans (l2.trans l)) E' hp
theorem sx_mulO {m n : Nat} {pn : List Str} {ι : Type} {P : ι → Prop} {D0 : ι → List Cell} {O0 : ι → Ob} {r : ι → Ret} (tk : Takes X W) (M : ∃ f1 f2, OWN.MulC X.K Ca f1 f2) (hf : Mdef X.prog X.w X.K X.mg X.base m Ca "__mul__" pn (spM P D0 O0 r)) (hr : Room n X.A)
    (i : ι) (hi : P i) (h1 : SE X e1 C O O1 (insP Ca ns ps)) (h2 : SE X e2 C O1 O2 (vp k)) (hR : r i = .x er []) (hD : D0 i = [.v (insP Ca ns ps), .v (vp k)] := by rfl) (hO : O0 i = [] := by rfl) (hmn : m ≤ n := by decide) :
    SX X W (.BinOp e1 .Mult e2 pos) C O O2 er := by
  obtain ⟨f1, f2, M⟩ := M
  obtain ⟨_, rfl, ho⟩ := mulL_core M hf hr hmn W tk
  refine imp (OWN.pe_opS ho h1 h2) fun σ H Q ⟨Φ, F, A, E, w⟩ => ⟨Φ, F, A, E, fun F1 H1 v A1 l1 E1 hv => ⟨Φ, F1, A1, E1, fun F2 H2 u A2 l2 E2 hu => ?_⟩⟩
  obtain ⟨a, dx, vs, rfl, hF, al⟩ := id hv
  have hu' : u = .int k := hu
  refine ⟨a, dx, _, k, rfl, hu', E2.fh _ _ (l2 _ _ hF), i, hi, ?_⟩
  rw [hD, hO, hR]
  have hvv : Aa F2 σ [.ref a, u] [.v (insP Ca ns ps), .v (vp k)] := .v (VP.mono _ l2 hv) (.v hu .nil)
  exact call_x (js := []) E2 (fun j hj => absurd hj List.not_mem_nil) List.nodup_nil (.v (.v .nil)) hvv rfl fun F' H' A' d l E' hp => w F' H' A' d (l1.trans (l2.trans l)) E' hp
theorem se_rmulO {m n : Nat} {pn : List Str} {ι : Type} {P : ι → Prop} {D0 : ι → List Cell} {O0 : ι → Ob} {r : ι → Ret} (M : ∃ f1 f2, OWN.MulC X.K Ca f1 f2) (hf : Mdef X.prog X.w X.K X.mg X.base m Ca "__rmul__" pn (spM P D0 O0 r)) (hr : Room n X.A)
    (i : ι) (hi : P i) (h1 : SE X e1 C O O1 (vp k)) (h2 : SE X e2 C O1 O2 (insP Ca ns ps)) (hR : r i = .v p []) (hD : D0 i = [.v (insP Ca ns ps), .v (vp k)] := by rfl) (hO : O0 i = [] := by rfl) (hmn : m ≤ n := by decide) :
    SE X (.BinOp e1 .Mult e2 pos) C O O2 p := by
  obtain ⟨f1, f2, M⟩ := M
  obtain ⟨_, rfl, ho⟩ := mulR_core M hf hr hmn (fun _ _ _ _ => False) takes0
  refine imp (OWN.pe_opS ho h1 h2) fun σ H Q ⟨Φ, F, A, E, w⟩ => ⟨Φ, F, A, E, fun F1 H1 v A1 l1 E1 hv => ⟨Φ, F1, A1, E1, fun F2 H2 u A2 l2 E2 hu => ?_⟩⟩
  obtain ⟨a, dx, vs, rfl, hF, al⟩ := id hu
  have hv' : v = .int k := hv
  refine ⟨a, dx, _, k, hv', rfl, E2.fh _ _ hF, i, hi, ?_⟩
  rw [hD, hO, hR]
  have hvv : Aa F2 σ [.ref a, v] [.v (insP Ca ns ps), .v (vp k)] := .v hu (.v hv .nil)
  exact call_v (js := []) E2 (fun j hj => absurd hj List.not_mem_nil) List.nodup_nil (.v (.v .nil)) hvv rfl fun F' H' v A' l E' hp => w F' H' v A' (l1.trans (l2.trans l)) E' hp
theorem sx_rmulO {m n : Nat} {pn : List Str} {ι : Type} {P : ι → Prop} {D0 : ι → List Cell} {O0 : ι → Ob} {r : ι → Ret} (tk : Takes X W) (M : ∃ f1 f2, OWN.MulC X.K Ca f1 f2) (hf : Mdef X.prog X.w X.K X.mg X.base m Ca "__rmul__" pn (spM P D0 O0 r)) (hr : Room n X.A)
    (i : ι) (hi : P i) (h1 : SE X e1 C O O1 (vp k)) (h2 : SE X e2 C O1 O2 (insP Ca ns ps)) (hR : r i = .x er []) (hD : D0 i = [.v (insP Ca ns ps), .v (vp k)] := by rfl) (hO : O0 i = [] := by rfl) (hmn : m ≤ n := by decide) :
    SX X W (.BinOp e1 .Mult e2 pos) C O O2 er := by
  obtain ⟨f1, f2, M⟩ := M
  obtain ⟨_, rfl, ho⟩ := mulR_core M hf hr hmn W tk
  refine imp (OWN.pe_opS ho h1 h2) fun σ H Q ⟨Φ, F, A, E, w⟩ => ⟨Φ, F, A, E, fun F1 H1 v A1 l1 E1 hv => ⟨Φ, F1, A1, E1, fun F2 H2 u A2 l2 E2 hu => ?_⟩⟩
  obtain ⟨a, dx, vs, rfl, hF, al⟩ := id hu
  have hv' : v = .int k := hv
  refine ⟨a, dx, _, k, hv', rfl, E2.fh _ _ hF, i, hi, ?_⟩
  rw [hD, hO, hR]
  have hvv : Aa F2 σ [.ref a, v] [.v (insP Ca ns ps), .v (vp k)] := .v hu (.v hv .nil)
  exact call_x (js := []) E2 (fun j hj => absurd hj List.not_mem_nil) List.nodup_nil (.v (.v .nil)) hvv rfl fun F' H' A' d l E' hp => w F' H' A' d (l1.trans (l2.trans l)) E' hp
end
end SIM
namespace SIM
/-- a raising answer is no answer here -/
def okR {ε α : Type} (m : Option (Res ε α)) : Option α := m.bind fun r => match r with
  | .ok a => some a
  | .er _ => none
theorem okR_some {ε α : Type} {m : Option (Res ε α)} {a : α} (h : okR m = some a) : m = some (.ok a) := by
  cases m with
  | none => cases h
  | some r => cases r with
    | ok b => cases h; rfl
    | er e => cases h
theorem okR_ok {ε α : Type} {a : α} : okR (some (.ok a) : Option (Res ε α)) = some a := rfl
theorem bndK {ε α β : Type} {m : Option (Res ε α)} {f : α → Option β} {b : β} (h : Option.bind (okR m) f = some b) : ∃ a, m = some (.ok a) ∧ f a = some b := by
  obtain ⟨a, e, h⟩ := Option.bind_eq_some_iff.mp h
  exact ⟨a, okR_some e, h⟩
end SIM
namespace SIM
open PySem L2 PyProof.Rows
section
variable {X : Cx} {W : WX} {C : List Cell} {O O1 : Ob} {e1 e2 : Expr} {es : List Expr} {pos : Pos} {er : Er}
theorem sx_and0 (h : SX X W e1 C O O1 er) : SX X W (.BoolOp .And (e1 :: e2 :: es) pos) C O O1 er := imp (pe_and h pe_never) fun σ H Q w => w
theorem sx_or0 (h : SX X W e1 C O O1 er) : SX X W (.BoolOp .Or (e1 :: e2 :: es) pos) C O O1 er := imp (pe_or h pe_never) fun σ H Q w => w
theorem sx_not (h : SX X W e1 C O O1 er) : SX X W (.UnaryOp .Not e1 pos) C O O1 er := imp (pe_not h) fun σ H Q w => w
end
end SIM

end
section
namespace SIM
open PySem L2 PyProof.Rows
/-! objects of own classes that may change: their methods -/
/-- an instance of Ca, whose own dict has no such name -/
def InsQ (q : OP) (Ca : Addr) (mm : Str) : Prop := ∀ (F H : Hp) (a : Addr) (fp : List Addr), q.p F H a fp → ∃ dx fs, H a = some (.ins Ca dx fs) ∧ fs.lookup mm = none
theorem insq {t : Bool} {Ca : Addr} {ns : List Str} {ps : List VP} {mm : Str} (h : ixOf ns mm = none := by decide +kernel) : InsQ (insO t Ca ns ps) Ca mm := fun F H a fp ⟨_, dx, vs, e, _⟩ => ⟨dx, _, e, nolookup_zip h⟩
section
variable {X : Cx} {W : WX} {C C' C1 C2 : List Cell} {O O' O1 O2 O3 O4 : Ob} {p r : VP} {q q1 qs : OP} {ps : List VP} {tg e e1 e2 e3 e4 : Expr} {es ts : List Expr} {pos p1 p2 p3 apos : Pos} {x f mm : Str} {s : Stmt} {ss body : List Stmt} {ns ns2 : List Str} {Ca Cb : Addr} {er : Er} {o : Out} {i j k : Int} {b b1 b2 : Bool} {n : Nat} {pl : Sem Bool} {ta tb : TE} {sp : Sp}
theorem pe_methW0 {k : Nat} {C f : Addr} {fd : FuncData} {ps : List Str} {m : Str} {o : Expr} (he : PE X o ta) (c : Cls X.K C) (hm : Meth X.K C m f) (F : FnOk X.prog X.w X.K X.mg X.base (L2.CX X.prog X.w) k f fd ps sp) (hr : Room k X.A) (hb : Binds X.K fd ps []) (tk : Takes X W)
    (ht : eval (.Call (.Attribute o m apos) [] [] pos) X.env = (do
      let ov ← eval o X.env
      standAt apos.atName
      let (f, first) ← holding [ov] (getMethod ov m pl)
      callWith pos f first (backTo pos (starEach [] X.env)) (backToKw pos (keywordEach [] X.env))) := by rfl) :
    PE X (.Call (.Attribute o m apos) [] [] pos) (OWN.tMethW C m sp W ta tNil) := by
  refine ⟨fun pins s σ H Q I h => ?_⟩
  refine PySem.W.methodCall_KW (pl := pl) (thn (he.run pins s σ H _ I h) fun u s1 ⟨x, H1, I1, rx, a, dx, fs, ex, ea, l, q⟩ => ?_) ht
  subst ex
  obtain rfl : u = Value.ref a := rx
  refine getmeth_ok I1 ea c hm l ?_
  exact PySem.W.callWith_K0 (first := [.ref a]) I1.kIn hm.kp (run_fnS (us := [.ref a]) (vs := [.ref a]) (E := WE W) F hr hb (passAt tk σ) I1 (.cons rfl .nil) q)
/-- the receiver, an object of ours -/
theorem rcv {m0 n0 : Nat} {σ : L2.St} {H : Hp} {Φ : Frm} {F : Hp} {A : List (Addr × List Addr)} (E : Ev Φ F H σ C O A) (hC : C[n0]? = some (.o m0)) (hQ : O[m0]? = some (some qs)) (hI : InsQ qs Ca mm) : ∃ a dx fs, σ[n0]? = some (some (.ref a)) ∧ H a = some (.ins Ca dx fs) ∧ fs.lookup mm = none := by
  obtain ⟨a, fp, hs, hA, J⟩ := E.obj hC hQ
  obtain ⟨dx, fs, h1, h2⟩ := hI _ _ _ _ J.ok
  exact ⟨a, dx, fs, hs, h1, h2⟩
theorem se_methO {m n : Nat} {pn : List Str} {js : List Nat} {as : List AC} {ι : Type} {P : ι → Prop} {D0 : ι → List Cell} {O0 : ι → Ob} {r : ι → Ret} (hf : Mdef X.prog X.w X.K X.mg X.base m Ca mm pn (spM P D0 O0 r)) (hr : Room n X.A)
    (i : ι) (hi : P i) (n0 : Nat) {m0 : Nat} (hI : InsQ qs Ca mm) (args : SA X (e1 :: es) C O O2 as) (hR : r i = .v p O') (ad : AD C js (.o n0 :: as) (D0 i)) (hO : O0 i = inO O2 js) (hO2 : outO O2 js O' = O3) (hC : C[n0]? = some (.o m0) := by rfl) (hQ : O[m0]? = some (some qs) := by rfl) (hmn : m ≤ n := by decide) (nd : js.Nodup := by decide) (hl : O'.length = js.length := by rfl) (hj : ∀ j ∈ js, ∃ p, O2[j]? = some (some p) := by exact hjs rfl)
    (hN : X.N[n0]? = some x := by rfl) (hv : Vis X.env.scope x := by first | exact Or.inl rfl | exact Or.inr (Or.inl rfl) | exact Or.inr (Or.inr rfl)) (hd : (x == ("__debug__" : Str)) = false := by decide) (hcd : (x == ("__classdict__" : Str)) = false := by decide)
    (he : starEach (e1 :: es) X.env = (false, eval e1 X.env) :: starEach es X.env := by rfl) (hpl : (backTo pos (starEach es X.env)).any (·.1) = false := by rfl)
    (ht : eval (.Call (.Attribute (.Name x p1) mm apos) (e1 :: es) [] pos) X.env = (do
      let ov ← eval (.Name x p1) X.env
      standAt apos.atName
      let (f, first) ← holding [ov] (getMethod ov mm pl)
      callWith pos f first (backTo pos (starEach (e1 :: es) X.env)) (backToKw pos (keywordEach [] X.env))) := by rfl) :
    SE X (.Call (.Attribute (.Name x p1) mm apos) (e1 :: es) [] pos) C O O3 p := by
  obtain ⟨f, fd, cl, hm, F, hb⟩ := hf
  subst hO2
  exact imp (OWN.pe_methW (W := fun _ _ _ _ => False) (pl := pl) (pe_var hN hv hd hcd) cl hm F (hr.mono hmn) hb takes0 args he hpl ht) fun σ H Q ⟨Φ, F, A, E, w⟩ => by
    obtain ⟨a, dx, fs, h1, h2, h3⟩ := rcv E hC hQ hI
    refine ⟨.ref a, h1, a, dx, fs, rfl, h2, h3, Φ, F, A, E, fun F2 H2 ws A2 l2 E2 hw => ⟨i, hi, ?_⟩⟩
    rw [hO, hR]
    exact call_v E2 hj nd ad (.o h1 hw) hl fun F' H' v A' l E' hp => w F' H' v A' (l2.trans l) E' hp
theorem sx_methO {m n : Nat} {pn : List Str} {js : List Nat} {as : List AC} {ι : Type} {P : ι → Prop} {D0 : ι → List Cell} {O0 : ι → Ob} {r : ι → Ret} (tk : Takes X W) (hf : Mdef X.prog X.w X.K X.mg X.base m Ca mm pn (spM P D0 O0 r)) (hr : Room n X.A)
    (i : ι) (hi : P i) (n0 : Nat) {m0 : Nat} (hI : InsQ qs Ca mm) (args : SA X (e1 :: es) C O O2 as) (hR : r i = .x er O') (ad : AD C js (.o n0 :: as) (D0 i)) (hO : O0 i = inO O2 js) (hO2 : outO O2 js O' = O3) (hC : C[n0]? = some (.o m0) := by rfl) (hQ : O[m0]? = some (some qs) := by rfl) (hmn : m ≤ n := by decide) (nd : js.Nodup := by decide) (hl : O'.length = js.length := by rfl) (hj : ∀ j ∈ js, ∃ p, O2[j]? = some (some p) := by exact hjs rfl)
    (hN : X.N[n0]? = some x := by rfl) (hv : Vis X.env.scope x := by first | exact Or.inl rfl | exact Or.inr (Or.inl rfl) | exact Or.inr (Or.inr rfl)) (hd : (x == ("__debug__" : Str)) = false := by decide) (hcd : (x == ("__classdict__" : Str)) = false := by decide)
    (he : starEach (e1 :: es) X.env = (false, eval e1 X.env) :: starEach es X.env := by rfl) (hpl : (backTo pos (starEach es X.env)).any (·.1) = false := by rfl)
    (ht : eval (.Call (.Attribute (.Name x p1) mm apos) (e1 :: es) [] pos) X.env = (do
      let ov ← eval (.Name x p1) X.env
      standAt apos.atName
      let (f, first) ← holding [ov] (getMethod ov mm pl)
      callWith pos f first (backTo pos (starEach (e1 :: es) X.env)) (backToKw pos (keywordEach [] X.env))) := by rfl) :
    SX X W (.Call (.Attribute (.Name x p1) mm apos) (e1 :: es) [] pos) C O O3 er := by
  obtain ⟨f, fd, cl, hm, F, hb⟩ := hf
  subst hO2
  exact imp (OWN.pe_methW (pl := pl) (pe_var hN hv hd hcd) cl hm F (hr.mono hmn) hb tk args he hpl ht) fun σ H Q ⟨Φ, F, A, E, w⟩ => by
    obtain ⟨a, dx, fs, h1, h2, h3⟩ := rcv E hC hQ hI
    refine ⟨.ref a, h1, a, dx, fs, rfl, h2, h3, Φ, F, A, E, fun F2 H2 ws A2 l2 E2 hw => ⟨i, hi, ?_⟩⟩
    rw [hO, hR]
    exact call_x E2 hj nd ad (.o h1 hw) hl fun F' H' A' d l E' hp => w F' H' A' d (l2.trans l) E' hp
/-- without arguments -/
theorem se_methO0 {m n : Nat} {pn : List Str} {js : List Nat} {ι : Type} {P : ι → Prop} {D0 : ι → List Cell} {O0 : ι → Ob} {r : ι → Ret} (hf : Mdef X.prog X.w X.K X.mg X.base m Ca mm pn (spM P D0 O0 r)) (hr : Room n X.A)
    (i : ι) (hi : P i) (n0 : Nat) {m0 : Nat} (hI : InsQ qs Ca mm) (hR : r i = .v p O') (ad : AD C js [.o n0] (D0 i)) (hO : O0 i = inO O js) (hO2 : outO O js O' = O3) (hC : C[n0]? = some (.o m0) := by rfl) (hQ : O[m0]? = some (some qs) := by rfl) (hmn : m ≤ n := by decide) (nd : js.Nodup := by decide) (hl : O'.length = js.length := by rfl) (hj : ∀ j ∈ js, ∃ p, O[j]? = some (some p) := by exact hjs rfl)
    (hN : X.N[n0]? = some x := by rfl) (hv : Vis X.env.scope x := by first | exact Or.inl rfl | exact Or.inr (Or.inl rfl) | exact Or.inr (Or.inr rfl)) (hd : (x == ("__debug__" : Str)) = false := by decide) (hcd : (x == ("__classdict__" : Str)) = false := by decide)
    (ht : eval (.Call (.Attribute (.Name x p1) mm apos) [] [] pos) X.env = (do
      let ov ← eval (.Name x p1) X.env
      standAt apos.atName
      let (f, first) ← holding [ov] (getMethod ov mm pl)
      callWith pos f first (backTo pos (starEach [] X.env)) (backToKw pos (keywordEach [] X.env))) := by rfl) :
    SE X (.Call (.Attribute (.Name x p1) mm apos) [] [] pos) C O O3 p := by
  obtain ⟨f, fd, cl, hm, F, hb⟩ := hf
  subst hO2
  exact imp (pe_methW0 (W := fun _ _ _ _ => False) (pl := pl) (pe_var hN hv hd hcd) cl hm F (hr.mono hmn) hb takes0 ht) fun σ H Q ⟨Φ, F, A, E, w⟩ => by
    obtain ⟨a, dx, fs, h1, h2, h3⟩ := rcv E hC hQ hI
    refine ⟨.ref a, h1, a, dx, fs, rfl, h2, h3, i, hi, ?_⟩
    rw [hO, hR]
    exact call_v E hj nd ad (.o h1 .nil) hl fun F' H' v A' l E' hp => w F' H' v A' l E' hp
theorem sx_methO0 {m n : Nat} {pn : List Str} {js : List Nat} {ι : Type} {P : ι → Prop} {D0 : ι → List Cell} {O0 : ι → Ob} {r : ι → Ret} (tk : Takes X W) (hf : Mdef X.prog X.w X.K X.mg X.base m Ca mm pn (spM P D0 O0 r)) (hr : Room n X.A)
    (i : ι) (hi : P i) (n0 : Nat) {m0 : Nat} (hI : InsQ qs Ca mm) (hR : r i = .x er O') (ad : AD C js [.o n0] (D0 i)) (hO : O0 i = inO O js) (hO2 : outO O js O' = O3) (hC : C[n0]? = some (.o m0) := by rfl) (hQ : O[m0]? = some (some qs) := by rfl) (hmn : m ≤ n := by decide) (nd : js.Nodup := by decide) (hl : O'.length = js.length := by rfl) (hj : ∀ j ∈ js, ∃ p, O[j]? = some (some p) := by exact hjs rfl)
    (hN : X.N[n0]? = some x := by rfl) (hv : Vis X.env.scope x := by first | exact Or.inl rfl | exact Or.inr (Or.inl rfl) | exact Or.inr (Or.inr rfl)) (hd : (x == ("__debug__" : Str)) = false := by decide) (hcd : (x == ("__classdict__" : Str)) = false := by decide)
    (ht : eval (.Call (.Attribute (.Name x p1) mm apos) [] [] pos) X.env = (do
      let ov ← eval (.Name x p1) X.env
      standAt apos.atName
      let (f, first) ← holding [ov] (getMethod ov mm pl)
      callWith pos f first (backTo pos (starEach [] X.env)) (backToKw pos (keywordEach [] X.env))) := by rfl) :
    SX X W (.Call (.Attribute (.Name x p1) mm apos) [] [] pos) C O O3 er := by
  obtain ⟨f, fd, cl, hm, F, hb⟩ := hf
  subst hO2
  exact imp (pe_methW0 (pl := pl) (pe_var hN hv hd hcd) cl hm F (hr.mono hmn) hb tk ht) fun σ H Q ⟨Φ, F, A, E, w⟩ => by
    obtain ⟨a, dx, fs, h1, h2, h3⟩ := rcv E hC hQ hI
    refine ⟨.ref a, h1, a, dx, fs, rfl, h2, h3, i, hi, ?_⟩
    rw [hO, hR]
    exact call_x E hj nd ad (.o h1 .nil) hl fun F' H' A' d l E' hp => w F' H' A' d l E' hp
/-! properties -/
def Pdef (P : Program) (w : World) (K : PySem.W.Frag) (mg : Str → Option Value) (base : Heap) (k : Nat) (Ca : Addr) (m : Str) (ps : List Str) (sp : Sp) : Prop :=
  ∃ pa g fd, Cls K Ca ∧ PropOf K Ca m pa g ∧ FnOk P w K mg base (L2.CX P w) k g fd ps sp ∧ Binds K fd ps []
theorem se_propO {m n : Nat} {pn : List Str} {js : List Nat} {ι : Type} {P : ι → Prop} {D0 : ι → List Cell} {O0 : ι → Ob} {r : ι → Ret} (hf : Pdef X.prog X.w X.K X.mg X.base m Ca mm pn (spM P D0 O0 r)) (hr : Room n X.A)
    (i : ι) (hi : P i) (n0 : Nat) {m0 : Nat} (hI : InsQ qs Ca "") (hR : r i = .v p O') (ad : AD C js [.o n0] (D0 i)) (hO : O0 i = inO O js) (hO2 : outO O js O' = O3) (hC : C[n0]? = some (.o m0) := by rfl) (hQ : O[m0]? = some (some qs) := by rfl) (hmn : m + 1 ≤ n := by decide) (nd : js.Nodup := by decide) (hl : O'.length = js.length := by rfl) (hj : ∀ j ∈ js, ∃ p, O[j]? = some (some p) := by exact hjs rfl)
    (hN : X.N[n0]? = some x := by rfl) (hv : Vis X.env.scope x := by first | exact Or.inl rfl | exact Or.inr (Or.inl rfl) | exact Or.inr (Or.inr rfl)) (hd : (x == ("__debug__" : Str)) = false := by decide) (hcd : (x == ("__classdict__" : Str)) = false := by decide)
    (hab : attributeBase (.Name x p1) mm X.env (eval (.Name x p1) X.env) = eval (.Name x p1) X.env := by rfl) : SE X (.Attribute (.Name x p1) mm pos) C O O3 p := by
  obtain ⟨pa, g, fd, cl, hp, F, hb⟩ := hf
  subst hO2
  exact imp (pe_prop (E := E0) (pe_var hN hv hd hcd) cl hp F (hr.mono hmn) hb .nil passL hab) fun σ H Q ⟨Φ, F, A, E, w⟩ => by
    obtain ⟨a, dx, fs, h1, h2, h3⟩ := rcv E hC hQ hI
    refine ⟨.ref a, h1, a, dx, fs, rfl, h2, i, hi, ?_⟩
    rw [hO, hR]
    exact call_v E hj nd ad (.o h1 .nil) hl fun F' H' v A' l E' hp => w F' H' v A' l E' hp
/-- x.f = e, a field that is there -/
theorem ss_fldS (m j k : Nat) {t : Bool} {pn pa : Pos} (c : Cls X.K Ca) (na : NoAttr X.K Ca f) (h : SE X e C O O1 p) (hO : O1[j]? = some (some (insO t Ca ns ps))) (hk : ixOf ns f = some k := by decide +kernel) (hlen : ns.length = ps.length := by rfl) (hsm : ns.length < 1000 := by decide) (hO2 : O1.set j (some (insO t Ca ns (ps.set k p))) = O2 := by rfl)
    (hC : C[m]? = some (.o j) := by rfl) (hN : X.N[m]? = some x := by rfl) (hv : Vis X.env.scope x := by first | exact Or.inl rfl | exact Or.inr (Or.inl rfl) | exact Or.inr (Or.inr rfl))
    (hd : (x == ("__debug__" : Str)) = false := by decide) (hcd : (x == ("__classdict__" : Str)) = false := by decide) (hs : swapsWith e (some (.Attribute (.Name x pn) f pa)) pos.line X.env = pure false := by rfl) : SS X W (.Assign [.Attribute (.Name x pn) f pa] e pos) C O (.nx C O2) := by
  have put : ∀ {ns : List Str} {vs : List V} {y : V} {k : Nat}, ixOf ns f = some k → ns.length = vs.length → putF f y (ns.zip vs) = ns.zip (vs.set k y) := by
    intro ns
    induction ns with
    | nil => intro vs y k h _; cases h
    | cons n ns ih =>
      intro vs y k hx hl
      cases vs with
      | nil => cases hl
      | cons u vs =>
        rw [ixOf] at hx
        by_cases hne : (f == n) = true
        · rw [if_pos hne] at hx
          cases hx
          have e1 := beq_iff_eq.mp hne
          subst e1
          show (if f = f then _ else _) = _
          rw [if_pos rfl]; rfl
        · rw [if_neg hne] at hx
          obtain ⟨k', e2, rfl⟩ := Option.map_eq_some_iff.mp hx
          have hn2 : ¬ (n = f) := fun z => hne (beq_iff_eq.mpr z.symm)
          show (if n = f then _ else _) = _
          rw [if_neg hn2]
          show (n, u) :: putF f y (ns.zip vs) = _
          rw [ih e2 (by simpa using hl)]; rfl
  refine impS (ps_fld (pe_var hN hv hd hcd) h hs) fun D σ H ⟨Φ, F, A, E, w⟩ => ⟨Φ, F, A, E, fun F1 H1 y A1 l1 E1 hp => ?_⟩
  obtain ⟨a, fp, hs', hA, J⟩ := E1.obj hC hO
  obtain ⟨rfl, dx, vs, hH, al⟩ := J.ok
  refine ⟨.ref a, hs', a, Ca, dx, _, rfl, hH, c, na, by rw [List.length_zip]; omega, ?_⟩
  rw [put hk (by rw [hlen, al.len])]
  subst hO2
  exact w F1 _ σ _ l1 (E1.write hO hA rfl ⟨rfl, dx, vs.set k y, upd_same, al.set hp k⟩ (fun b hb _ => upd_ne (fun z => hb (List.mem_singleton.mpr z))) (fun b hb => by
    by_cases z : b = a
    · rw [z, upd_same]; exact Option.some_ne_none _
    · rw [upd_ne z]; exact hb) (fun b hb => ⟨.inl hb, by rw [List.mem_singleton.mp hb, upd_same]; exact Option.some_ne_none _⟩))
end
end SIM

end
section
namespace SIM
open PySem L2 PyProof.Rows
/-! a < b < c < d of ints, as a test -/
section
variable {X : Cx} {C C' : List Cell} {O O' : Ob} {e1 e2 e3 e4 a b c d : Expr} {pos : Pos} {i j k l : Int} {ta tb tc td : TE}
theorem se_nn {α : Type} [Rp α] {x : Option α} {e : Expr} {O1 : Ob} (h : SE X e C O O1 (vp x)) (hx : x = none) : SE X e C O O1 (vp ()) := by subst hx; exact se_as h fun _ _ z => z
def tChain3 (r r' r2 : R2) (ta tb tc td : TE) : TE := fun σ H Q => ta σ H fun x H1 => tb σ H1 fun y H2 => r x y H2 fun z H3 => ∃ k, z = .bl k ∧
  (if k = true then tc σ H3 fun w' H4 => r' y w' H4 fun z2 H5 => ∃ k2, z2 = .bl k2 ∧ (if k2 = true then td σ H5 fun u H6 => r2 w' u H6 Q else Q (.bl false) H5) else Q (.bl false) H3)
theorem pt_chain3 {op op' op2 : CmpOp} {r r' r2 : R2} (ho : OpR X (compareOp op) r) (ho' : OpR X (compareOp op') r') (ho2 : OpR X (compareOp op2) r2) (ha : PE X a ta) (hb : PE X b tb) (hc : PE X c tc) (hd : PE X d td)
    (hm : lastMarks [op, op', op2] [b, c, d] = false := by with_unfolding_all rfl) : PT X (.Compare a [op, op', op2] [b, c, d] pos) (tTest (tChain3 r r' r2 ta tb tc td)) := by
  refine ⟨fun pins s σ H Q I h => ?_⟩
  refine isTrue_chain (thn (ha.run pins s σ H _ I h) fun v s1 ⟨x, H1, I1, r1, q1⟩ => test_link (thn (hb.run pins s1 σ H1 _ I1 q1) fun u s2 ⟨y, H2, I2, r2, q2⟩ =>
    thn (ho pins s2 σ H2 x y v u _ I2 r1 r2 q2) fun d s3 ⟨z, H3, I3, r3, k, e, q3⟩ => ?_)) hm
  subst e
  cases r3
  refine wpAny_truthy_bool ?_
  cases k with
  | false =>
    obtain ⟨k', e', q'⟩ := q3
    cases e'
    exact ite_ff ⟨H3, I3, q'⟩
  | true =>
    refine ite_tt (test_link (thn (hc.run pins s3 σ H3 _ I3 q3) fun w' s4 ⟨z', H4, I4, r4, q4⟩ => thn (ho' pins s4 σ H4 y z' u w' _ I4 r2 r4 q4) fun d' s5 ⟨z2, H5, I5, r5, k2, e2, q5⟩ => ?_))
    subst e2
    cases r5
    refine wpAny_truthy_bool ?_
    cases k2 with
    | false =>
      obtain ⟨k', e', q'⟩ := q5
      cases e'
      exact ite_ff ⟨H5, I5, q'⟩
    | true =>
      refine ite_tt (test_last (thn (hd.run pins s5 σ H5 _ I5 q5) fun w6 s6 ⟨z6, H6, I6, r6, q6⟩ => thn (ho2 pins s6 σ H6 z' z6 w' w6 _ I6 r4 r6 q6) fun d7 s7 ⟨z7, H7, I7, r7, k7, e7, q7⟩ => ?_))
      subst e7
      cases r7
      exact wpAny_truthy_bool ⟨H7, I7, q7⟩
theorem st_chain3 {op op' op2 : CmpOp} {g g' g2 : Int → Int → Bool} (ho : OpR X (compareOp op) (rI0 fun i j => .bl (g i j))) (ho' : OpR X (compareOp op') (rI0 fun i j => .bl (g' i j))) (ho2 : OpR X (compareOp op2) (rI0 fun i j => .bl (g2 i j)))
    (h1 : SE X e1 C O O (vp i)) (h2 : SE X e2 C O O (vp j)) (h3 : SE X e3 C O O (vp k)) (h4 : SE X e4 C O O (vp l))
    (hm : lastMarks [op, op', op2] [e2, e3, e4] = false := by with_unfolding_all rfl) : ST X (.Compare e1 [op, op', op2] [e2, e3, e4] pos) C O O (g i j && (g' j k && g2 k l)) :=
  impT (pt_chain3 ho ho' ho2 h1 h2 h3 h4 hm) fun σ H Q ⟨Φ, F, A, E, w⟩ => ⟨Φ, F, A, E, fun F1 H1 x A1 l1 E1 hx => ⟨Φ, F1, A1, E1, fun F2 H2 y A2 l2 E2 hy => ⟨i, j, hx, hy, g i j, rfl, by
    cases hg : g i j with
    | false => exact iteF ⟨_, rfl, by have := w F2 H2 A2 (l1.trans l2) E2; rwa [hg] at this⟩
    | true => exact iteT ⟨Φ, F2, A2, E2, fun F3 H3 z A3 l3 E3 hz => ⟨j, k, hy, hz, g' j k, rfl, by
      cases hg' : g' j k with
      | false => exact iteF ⟨_, rfl, by have := w F3 H3 A3 (l1.trans (l2.trans l3)) E3; rwa [hg, hg'] at this⟩
      | true => exact iteT ⟨Φ, F3, A3, E3, fun F4 H4 v A4 l4 E4 hv => ⟨k, l, hz, hv, _, rfl, by have := w F4 H4 A4 (l1.trans (l2.trans (l3.trans l4))) E4; rwa [hg, hg'] at this⟩⟩⟩⟩⟩⟩⟩
end
end SIM

end
section
namespace SIM
open PySem L2 PyProof.Rows
/-! a comprehension whose element may raise -/
abbrev BlkX (X : Cx) (scope : Scope) (s : Shared) (H : Hp) (cc : Addr) (cl : List (Str × Addr)) (fp : List Addr) : Cx :=
  { X.blk s H scope (compEnvC scope cl cc X.env) fp with xe := fun e s' => notedBy (model X.prog X.w) X.A (compEnvC scope cl cc X.env) (CompFails (model X.prog X.w) X.A X.xe (compEnvC scope cl cc X.env)) e s' }
/-- noted by another frame: noted here anew -/
theorem look_elsewhere {M : Model} {A : Around} {E : Value → Shared → Prop} {s : Shared} {Z : Obj → Prop} {base : Heap} {env : Env} {outer : List Env} {L L' x : Addr} {Q : Unit → Shared → Prop} (hZ : HandSPX.Steady Z) (hL : L' ≠ L) (hA : A.frames = some (env :: outer)) (hf : env.frame = some L)
    (hh : HandSPX.HeldZ base (env :: outer) x Z L' s.heap) (k : ∀ h', HandSPX.HeldZ base (env :: outer) x Z L h' → s.heap.UpToSlots h' → Q () { s with heap := h' }) : wpAny M A (noteFrame (.ref x) env) Q E s := by
  obtain ⟨hk, hn, fl, ox, vs, T, oT, ts, e1, z1, d1, t1, nT, neT, eT, dT, t3⟩ := hh
  have ne3 : (rawInt L' == rawInt L) = false := by simp [rawInt]; exact fun h => hL (by exact_mod_cast h)
  unfold noteFrame
  simp only [hf]
  refine wpAny_bind (wpAny_field e1 d1 t1 ?_)
  rw [if_pos (by simp : (Value.ref T != Value.none) = true)]
  refine wpAny_bind (wpAny_field eT dT t3 ?_)
  rw [if_neg (by rw [ne3]; exact Bool.false_ne_true)]
  refine wpAny_bind (wpAny_setField eT dT (Array.getElem?_eq_some_iff.mp t3).1 ?_)
  have keep : ∀ c, c ≠ T → (s.heap.update T (Obj.mapFields (·.setIfInBounds 3 Value.none))).get? c = s.heap.get? c := fun c hc => Heap.get?_update_other _ _ (Ne.symm hc)
  have notT : ∀ c o, s.heap.get? c = some o → (∀ us, o.data ≠ .fields us) → c ≠ T := fun c o hc hu q => by
    subst q
    rw [eT] at hc; cases hc
    exact hu ts dT
  refine HandSPX.wpAny_entryZ hZ hA (fl.of_keeps fun c o hc hu => ⟨o, (keep c (notT c o hc hu)).trans hc, rfl⟩) hf ((keep x (Ne.symm neT)).trans e1)
    (fun c o hc => (keep c fun q => by subst q; rw [nT] at hc; cases hc).trans (hk c o hc)) hn d1 (Array.getElem?_eq_some_iff.mp t1).1 z1 fun h' N => ?_
  exact k h' ⟨N.1, hn, N.2.1, N.2.2.1⟩ fun c o hc hu => N.2.2.2 c o ((keep c (notT c o hc hu)).trans hc) hu
section
variable {X : Cx} {W : WX} {pins : List (Addr × Obj)} {σ : L2.St} {H0 : Hp} {s3 : Shared} {scope : Scope} {cl : List (Str × Addr)} {fp : List Addr}
/-- what leaves the block is in the air of the def -/
theorem takes_blk (tk : Takes X W) (I3 : Inv X pins σ H0 s3) (hfp : ∀ b ∈ fp, FpOk X pins H0 b) (hs : X.stack = X.env :: X.outer) (hf : X.env.frame = some X.env.locals) :
    Takes (BlkX X scope s3 H0 s3.heap.objs.size cl fp) (fun cls d _ H' => W cls d σ H') := by
  rintro u s' ⟨a, B, sI, pins', σ', H', cls, d, rfl, I', nb, up, sky, na, os, ag, w⟩
  have hst : (BlkX X scope s3 H0 s3.heap.objs.size cl fp).stack = X.env :: X.outer := hs
  rw [hst] at sky nb
  have hA : X.A.frames = some (X.env :: X.outer) := by rw [I3.ok.frames, hs]
  obtain ⟨m, hn, _⟩ := I'.loc
  have hn : sI.heap.Ns s3.heap.objs.size m := hn
  have nC : H' s3.heap.objs.size = none := I'.free
  have I7 : Inv X pins σ H' sI := I3.call' (ch := fp) I'.os I'.base I'.hok I'.bare fun b hb => ⟨(hfp b hb).2.2.2.1, (hfp b hb).2.1, (hfp b hb).2.2.2.2.1, (hfp b hb).2.2.2.2.2⟩
  obtain ⟨g0, g1, g2, g3, g4, g5⟩ := I3.fpOk (Nat.le_refl _) nC
  have I8 : Inv X pins σ H' { sI with heap := PySem.W.hideAll sI.heap [s3.heap.objs.size], toks := sI.toks } := I7.turned (fun b o hb e => PySem.W.hideAll_get _ e (by simp [hb])) g0 g1 g3 g4 g5
  have fin : ∀ h1, HandSPX.HeldZ B (X.env :: X.outer) a (Zc cls d) X.env.locals h1 → s'.heap.UpToSlots h1 → CompFails (model X.prog X.w) X.A X.xe (compEnvC scope cl s3.heap.objs.size X.env) (.ref a) { s' with heap := h1 } := by
    rintro h1 ⟨b1, b0, f1, ox, vs, T, oT, ts, e1, z1, d1, t1, nT, neT, eT, dT, t3⟩ up1
    have hn1 : h1.Ns s3.heap.objs.size m := up1.ns (up.ns hn)
    refine ⟨m, hn1, fun h2 m2 hn2 sb => ?_⟩
    obtain ⟨oC, es, ep, hoC, hdC, _⟩ := hn1
    have ca : a ≠ s3.heap.objs.size := fun q => by
      rw [q, hoC] at e1; cases e1
      rw [hdC] at d1; cases d1
    have cT : T ≠ s3.heap.objs.size := fun q => by
      rw [q, hoC] at eT; cases eT
      rw [hdC] at dT; cases dT
    have ofB : ∀ b o, (PySem.W.hideAll B [s3.heap.objs.size]).get? b = some o → B.get? b = some o ∧ b ≠ s3.heap.objs.size := fun b o e => ⟨PySem.W.of_hideAll _ e, fun q => by
      rw [PySem.W.hideAll_none _ (by simp [q])] at e; cases e⟩
    have noB : ∀ b, B.get? b = none → (PySem.W.hideAll B [s3.heap.objs.size]).get? b = none := fun b e => by
      cases q : (PySem.W.hideAll B [s3.heap.objs.size]).get? b with
      | none => rfl
      | some o => have := (ofB b o q).1; rw [e] at this; cases this
    have f2 : h2.FunFrames B (X.env :: X.outer) := Heap.FunFrames.sameBut sb hn2 f1
    have held : HandSPX.HeldZ (PySem.W.hideAll B [s3.heap.objs.size]) (X.env :: X.outer) a (Zc cls d) X.env.locals h2 :=
      ⟨fun b o e => (sb.2 b (ofB b o e).2).trans (b1 b o (ofB b o e).1), noB a b0, funFrames_none f2 fun L hL => noB L (f2.mem hL).1, ox, vs, T, oT, ts, (sb.2 a ca).trans e1, z1, d1, t1, noB T nT, neT, (sb.2 T cT).trans eT, dT, t3⟩
    unfold PySem.passOn
    refine wpAny_bind (wpAny_field ((sb.2 a ca).trans e1) d1 t1 ?_)
    rw [if_neg (by simp : ¬ ((Value.ref T == Value.none) = true))]
    rw [show (compEnvC scope cl s3.heap.objs.size X.env).frame = some X.env.locals from hf]
    refine wpAny_bind (HandSPX.setFlight_onZ (L := X.env.locals) held fun h3 held3 up3 => ?_)
    refine wpAny_throw (tk _ _ ⟨a, PySem.W.hideAll B [s3.heap.objs.size], _, pins, σ, H', cls, d, rfl, I8, fun b o e hb => ?_, ?_, .inr (.inr (by rw [hs]; exact held3)), na, os, ag, w⟩)
    · have hb' : b ≠ s3.heap.objs.size := fun q => by
        have e2 : (PySem.W.hideAll sI.heap [s3.heap.objs.size]).get? b = some o := e
        rw [PySem.W.hideAll_none _ (by simp [q])] at e2; cases e2
      exact PySem.W.hideAll_get _ (nb b o (PySem.W.of_hideAll _ e) (by rw [← hs]; exact hb)) (by simp [hb'])
    · intro b o e hu
      have hb' : b ≠ s3.heap.objs.size := fun q => by
        have e2 : (PySem.W.hideAll sI.heap [s3.heap.objs.size]).get? b = some o := e
        rw [PySem.W.hideAll_none _ (by simp [q])] at e2; cases e2
      obtain ⟨l1, q1⟩ := up b o (PySem.W.of_hideAll _ e) hu
      obtain ⟨l2, q2⟩ := up1 b _ q1 hu
      obtain ⟨l3, q3⟩ := up3 b _ ((sb.2 b hb').trans q2) hu
      exact ⟨l3, q3⟩
  show wpAny _ _ (noteFrame (.ref a) (compEnvC scope cl s3.heap.objs.size X.env)) _ _ s'
  rw [noteFrame_env (.ref a) (cenv := compEnvC scope cl s3.heap.objs.size X.env) (env := X.env) rfl]
  rcases sky with ⟨hB, hx, hl, oe, vs, he, hz, hd, h1⟩ | fl | hh
  · exact HandSPX.look_newZ Zc.steady hA hl hf he hB hx hd h1 hz fin
  · exact HandSPX.looks_onZ Zc.steady hA hf fl fin
  · exact look_elsewhere Zc.steady (L' := s3.heap.objs.size) (fun q => g1 q) hA hf hh fin
end

section
variable {X : Cx} {W : WX} {elt tg iter : Expr} {ifs : List Expr} {scope : Scope} {own : List (Str × Nat)} {pos : Pos} {wi : TI} {g : TG} {tt : TT} {te : L2.St → TE}
theorem pe_lcX (tk : Takes X W) (hs : X.stack = X.env :: X.outer) (hf : X.env.frame = some X.env.locals) (hc : X.calm = true) (hN : X.N.Nodup) (hi : PI X tg iter wi) (ok : BlkOk X.N X.env.scope scope own)
    (hg : ∀ s H C cl fp, PG (BlkX X scope s H C cl fp) tg g) (ht : ∀ s H C cl fp, PTs (BlkX X scope s H C cl fp) ifs tt)
    (he : ∀ σ s H C cl fp, Takes (BlkX X scope s H C cl fp) (fun cls d _ H' => W cls d σ H') → PE (BlkX X scope s H C cl fp) elt (te σ)) (hset : ∀ x, foldedSetIterable iter X.env x = pure x) :
    PE X (.ListComp elt [⟨tg, iter, ifs, 0⟩] scope pos) (fun σ H Q => tLc wi g tt (te σ) (own.map (·.2)) σ H Q) := by
  refine ⟨fun pins s σ H Q I h => ?_⟩
  rw [eval_ListComp]
  have there : ∀ y ∈ scope.names, y.2 = .free → ∃ c, X.env.cells.lookup y.1 = some c := fun y hy e => (ok.free y hy e).elim (fun k => I.ok.has _ (.inl k)) (fun k => I.ok.has _ (.inr k))
  refine comprehension_at (use := none) rfl hset (closure_ok there) ok.kind (fun y hy e => by rw [ok.uniq y hy, e]) ?_
  refine thn (hi.run pins s σ H _ I h) fun xv s1 hx => thn hx fun itv s2 ⟨it, fp, tn, J, H2, e2, I2, T, st2, f2, q⟩ => ?_
  subst e2
  refine wpAny_newObj_type (newEnv_comp ?_) (by show 0 ≤ sizeLine; decide)
  obtain ⟨D, hD⟩ : ∃ D, D = s2.heap.objs.size := ⟨_, rfl⟩
  rw [← hD]
  have freshD : H2 D = none := I2.hok.fresh (Nat.le_of_eq hD.symm)
  obtain ⟨Wn, ⟨m0, w0⟩, turn⟩ := q D freshD
  obtain ⟨s3, e3⟩ : ∃ s3 : Shared, s3 = { s2 with heap := s2.heap.push { cls := .type "list", data := .seq ([] : List Value).toArray } } := ⟨_, rfl⟩
  rw [← e3]
  have old : ∀ b o, s2.heap.get? b = some o → s3.heap.get? b = some o := fun b o hb => by rw [e3]; exact Heap.get?_push_of_some _ hb
  have I3 : Inv X pins σ (upd H2 D (.lst [])) s3 := by
    have L := I2.laid (t' := s2.toks) (h' := s3.heap) (a := D) (o := .lst []) old (Nat.le_of_eq hD.symm) ⟨Nat.zero_le _, [], 0, .nil, by rw [e3, hD]; exact Heap.get?_push_size _ rfl⟩
    rw [e3] at L ⊢
    exact L
  have small : ∀ b ∈ fp, b < s2.heap.objs.size := fun b hb => let ⟨o, e, _⟩ := T.obj _ _ st2 b hb; Heap.lt_size e
  have f3 : ∀ b ∈ fp, FpOk X pins (upd H2 D (.lst [])) b ∧ b < s3.heap.objs.size := fun b hb => by
    have lt := small b hb
    have up : s3.heap.objs.size = s2.heap.objs.size + 1 := by rw [e3]; exact Heap.size_push ..
    exact ⟨⟨by rw [upd_ne (by rw [hD]; exact Nat.ne_of_lt lt)]; exact (f2 b hb).1, (f2 b hb).2⟩, by rw [up]; exact Nat.lt_succ_of_lt lt⟩
  have st3 : tn 0 s3.heap := T.keep _ _ _ st2 fun b _ o e => old b o e
  have I4 := block_start I3 ok hN f3
  have TK := takes_blk (scope := scope) (cl := cellsFrom (s3.heap.objs.size + 1) scope.names (cloFrom X.env.cells scope.names [])) tk I3 (fun b hb => (f3 b hb).1) hs hf
  have G := hg s3 (upd H2 D (.lst [])) s3.heap.objs.size (cellsFrom (s3.heap.objs.size + 1) scope.names (cloFrom X.env.cells scope.names [])) fp
  have Te := ht s3 (upd H2 D (.lst [])) s3.heap.objs.size (cellsFrom (s3.heap.objs.size + 1) scope.names (cloFrom X.env.cells scope.names [])) fp
  have El := he σ s3 (upd H2 D (.lst [])) s3.heap.objs.size (cellsFrom (s3.heap.objs.size + 1) scope.names (cloFrom X.env.cells scope.names [])) fp TK
  have n0 : ∀ b ∈ fp, (upd H2 D (.lst [])) b = none := fun b hb => (f3 b hb).1.1
  obtain ⟨H3, eH3⟩ : ∃ H3, H3 = upd H2 D (.lst []) := ⟨_, rfl⟩
  rw [← eH3] at I3 I4 G Te El w0 n0 f3
  obtain ⟨cl, ecl⟩ : ∃ cl, cl = cellsFrom (s3.heap.objs.size + 1) scope.names (cloFrom X.env.cells scope.names []) := ⟨_, rfl⟩
  rw [← ecl] at I4 G Te El
  obtain ⟨s4, e4⟩ : ∃ s4 : Shared, s4 = { s3 with heap := pushCells (s3.heap.push { cls := .type "dict", data := .dict #[] }) scope.names } := ⟨_, rfl⟩
  rw [← e4] at I4
  have I5 : Inv (BlkX X scope s3 H3 s3.heap.objs.size cl fp) [] (wipe σ (own.map (·.2))) H3 s4 := I4.toTry _
  have st4 : tn 0 s4.heap := T.keep _ _ _ st3 fun b _ o e => by rw [e4]; exact pushCells_keeps _ _ _ _ (Heap.get?_push_of_some _ e)
  have still : ∀ {σ' : L2.St} {H' : Hp} {s' : Shared}, Inv (BlkX X scope s3 H3 s3.heap.objs.size cl fp) [] σ' H' s' → (∀ b ∈ fp, H' b = none) → ∀ b ∈ fp, FpOk (BlkX X scope s3 H3 s3.heap.objs.size cl fp) [] H' b := fun J' hn b hb =>
    ⟨hn b hb, (J'.ok.exf b hb).1, J'.ok.exfs b hb, .inl hb, fun x c e => (J'.ok.exf b hb).2 x c e, fun p hp => by cases hp⟩
  show codeAny _ _ (.compStart (.ListComp elt [⟨tg, iter, ifs, 0⟩] scope pos) 0 (.ref it) (.ref D) (compEnvC scope (cellsFrom (s3.heap.objs.size + 1) scope.names (cloFrom X.env.cells scope.names [])) s3.heap.objs.size X.env)) _ { s3 with heap := pushCells (s3.heap.push { cls := .type "dict", data := .dict #[] }) scope.names }
  rw [← ecl, ← e4]
  have run : codeAny (model X.prog X.w) X.A (.compLoop (.ListComp elt [⟨tg, iter, ifs, 0⟩] scope pos) 0 (.ref it) (.ref D) (compEnvC scope cl s3.heap.objs.size X.env)) (compEnds (model X.prog X.w) X.A X.xe none (EP X pins σ Q) (.ref D) (compEnvC scope cl s3.heap.objs.size X.env)) s4 := by
    refine compLoop_any (fun n s' => ∃ i H', Inv (BlkX X scope s3 H3 s3.heap.objs.size cl fp) [] (wipe σ (own.map (·.2))) H' s' ∧ tn i s'.heap ∧ (∀ b ∈ fp, H' b = none) ∧ Wn i n H') ?_ m0 ⟨0, H3, I5, st4, n0, w0⟩
    rintro n s5 ⟨i, H5, J5, t5, n5, w5⟩
    rcases turn i n H5 w5 with ⟨stop, qq⟩ | ⟨go, Nx, hNx, step⟩
    · refine thnF (T.done (BlkX X scope s3 H3 s3.heap.objs.size cl fp) rfl rfl rfl hc i [] s5 _ H5 (fun _ _ => False) J5 (still J5 n5) t5 stop) fun r s6 ⟨hr, J6⟩ => ?_
      subst hr
      have nC : H5 s3.heap.objs.size = none := J6.free
      obtain ⟨m, hm, _⟩ := J6.loc
      have J7 : Inv X pins σ H5 s6 := I3.call' (ch := fp) J6.os J6.base J6.hok J6.bare fun b hb => ⟨(f3 b hb).1.2.2.2.1, (f3 b hb).1.2.1, (f3 b hb).1.2.2.2.2.1, (f3 b hb).1.2.2.2.2.2⟩
      obtain ⟨g0, g1, g2, g3, g4, g5⟩ := I3.fpOk (Nat.le_refl _) nC
      exact ⟨m, hm, fun h2 sb => ⟨.ref D, H5, J7.turned (t' := s6.toks) (fun b o hb e => (sb.2 b hb).trans e) g0 g1 g3 g4 g5, rfl, qq⟩⟩
    · refine thnF (T.item (BlkX X scope s3 H3 s3.heap.objs.size cl fp) rfl rfl rfl hc i [] s5 _ H5 (fun _ _ => False) J5 (still J5 n5) t5 go) fun r s6 ⟨u, hr, h6⟩ => ?_
      subst hr
      refine thnF h6 fun _ s7 ⟨x, H7, J7, r7, y7, t7, n7⟩ => ?_
      have P7 := J7.pinned (still J7 n7) (T.obj _ _ t7)
      refine wpAny_mono (G.run _ s7 _ H7 x u _ P7 r7 (step x H7 y7)) (fun _ s8 ⟨σ8, H8, J8, hw8, q8⟩ => ?_) fun _ _ z => z
      refine wpAny_mono (Te.run _ s8 σ8 H8 _ J8 q8) (fun bb s9 ⟨H9, J9, q9⟩ => ?_) fun _ _ z => z
      have fin : ∀ {s' : Shared} {H' : Hp}, Inv (BlkX X scope s3 H3 s3.heap.objs.size cl fp) ([] ++ pinsAt fp s7.heap) σ8 H' s' → Nx H' → ∃ m, m < n ∧ ∃ i H', Inv (BlkX X scope s3 H3 s3.heap.objs.size cl fp) [] (wipe σ (own.map (·.2))) H' s' ∧ tn i s'.heap ∧ (∀ b ∈ fp, H' b = none) ∧ Wn i m H' := fun {s' H'} J nx => by
        obtain ⟨m', lt, w'⟩ := hNx H' nx
        have pinned : ∀ b ∈ fp, ∀ o, s7.heap.get? b = some o → s'.heap.get? b = some o ∧ H' b = none := fun b hb o e => by
          have z := J.pin (b, o) (List.mem_append_right _ (List.mem_append_right _ (mem_pinsAt hb e)))
          exact ⟨z.1, z.2.1⟩
        have len8 : (wipe σ (own.map (·.2))).length = σ8.length := by rw [← hw8, wipe_length]
        refine ⟨m', lt, i + 1, H', (J.unpinned (pins := [])).weak len8 (fun j v e => by rw [← hw8] at e; exact (wipe_some e).1), T.keep _ _ _ t7 fun b hb o e => (pinned b hb o e).1, fun b hb => ?_, w'⟩
        obtain ⟨o, e, _⟩ := T.obj _ _ t7 b hb
        exact (pinned b hb o e).2
      cases bb with
      | false =>
        rw [if_neg Bool.false_ne_true]
        rw [if_neg Bool.false_ne_true] at q9
        exact fin J9 q9
      | true =>
        rw [if_pos rfl]
        rw [if_pos rfl] at q9
        refine wpAny_mono (El.run _ s9 σ8 H9 _ J9 q9) (fun z s10 ⟨yv, H10, J10, r10, acc, hD10, hz10, nx⟩ => ?_) fun _ _ z => z
        exact app_ok (X := BlkX X scope s3 H3 s3.heap.objs.size cl fp) J10 hD10 hz10 r10 fun s11 J11 => fin J11 nx
  exact codeAny_compStart_list run (T.self X.A 0 _ _ _ st4 run)
end
end SIM

end
section
namespace SIM
open PySem L2 PyProof.Rows
/-! [f(x) for x in xs], f may raise -/
def compR {ε α β : Type} (f : α → Option (Res ε β)) : List α → Option (Res ε (List β))
  | [] => some (.ok [])
  | x :: xs => bindR (f x) fun y => bindR (compR f xs) fun ys => some (.ok (y :: ys))
theorem compR_ok {ε α β : Type} {f : α → Option (Res ε β)} : ∀ {xs : List α} {ys : List β}, compR f xs = some (.ok ys) → compM (fun _ _ => some true) (fun x (_ : Unit) => (okR (f x)).map fun y => (y, ())) xs () = some (ys, ())
  | [], ys, h => by
    rw [compR] at h
    cases h; rfl
  | x :: xs, ys, h => by
    rw [compR] at h
    rcases bndR h with ⟨e, _, h2⟩ | ⟨y, h1, h2⟩
    · cases h2
    · rcases bndR h2 with ⟨e, _, h3⟩ | ⟨zs, h3, h4⟩
      · cases h3
      · cases h4
        rw [compM]
        dsimp only
        rw [show okR (f x) = some y from by rw [h1]; rfl]
        simp only [Option.map_some, compR_ok h3]
theorem compR_er {ε α β : Type} {f : α → Option (Res ε β)} {e : ε} : ∀ {xs : List α}, compR f xs = some (.er e) → ∃ pre x post, xs = pre ++ x :: post ∧ (∀ y ∈ pre, ∃ b, f y = some (.ok b)) ∧ f x = some (.er e)
  | [], h => by
    rw [compR] at h
    cases h
  | x :: xs, h => by
    rw [compR] at h
    rcases bndR h with ⟨e', h1, h2⟩ | ⟨y, h1, h2⟩
    · cases h2
      exact ⟨[], x, xs, rfl, (fun y hy => nomatch hy), h1⟩
    · rcases bndR h2 with ⟨e', h3, h4⟩ | ⟨zs, h3, h4⟩
      · cases h4
        obtain ⟨pre, z, post, e1, e2, e3⟩ := compR_er h3
        exact ⟨x :: pre, z, post, by rw [e1]; rfl, fun w hw => (List.mem_cons.mp hw).elim (fun q => ⟨y, by rw [q]; exact h1⟩) (e2 w), e3⟩
      · cases h4
section
variable [Wd] {X : Cx} {W : WX} {C C' C1 C2 : List Cell} {O O' O1 O2 O3 : Ob} {p q r : VP} {ps qs : List VP} {tg elt e iter : Expr} {es ts : List Expr} {pos : Pos} {α β : Type} {vpa : α → VP} {vpb : β → VP} {xs : List α} {f : α → Option (Res Err β)} {ys : List β} {ns : List Nat} {scope : Scope} {own : List (Str × Nat)}
/-- none of them raises -/
theorem so_lcR (hm : compR f xs = some (.ok ys)) (dc : α → List Cell) (nd : X.N.Nodup) (ok : BlkOk X.N X.env.scope scope own) (hi : SI X tg iter C O O1 ps) (hps : ps = xs.map vpa) (hz : xs.length ≤ 1000)
    (hu : ∀ i ∈ own.map (·.2), ∀ c, C[i]? = some c → c = .u) (hns : ∀ n ∈ ns, n ∈ own.map (·.2)) (hdl : ∀ x, (dc x).length = C.length) (hdc : ∀ x i, i ∉ own.map (·.2) → C[i]? = (dc x)[i]?)
    (hg : ∀ s H cc cl fp x, SG (Blk X scope s H cc cl fp) tg C (vpa x) (dc x) ns)
    (he : ∀ s H cc cl fp x q y, x ∈ xs → f x = some (.ok y) → PE (Blk X scope s H cc cl fp) elt (rdE (dc x) (O1 ++ [some q]) (O1 ++ [some q]) (vpb y)))
    (hc : X.calm = true := by rfl) (hs : ∀ x, foldedSetIterable iter X.env x = pure x := by intro _; rfl) : SO X (.ListComp elt [⟨tg, iter, [], 0⟩] scope pos) C O O1 (lstO (ys.map vpb)) :=
  so_lc (obs := fun _ => O1) (compR_ok hm) dc nd ok hi hps hz rfl hu hns (fun _ => rfl) hdl hdc hg (fun s H cc cl fp x st q b hb => by cases hb; exact sts_nil) (fun s H cc cl fp x st q y st' hx _ hy => by
    cases hf : okR (f x) with
    | none => rw [hf] at hy; cases hy
    | some z =>
      rw [hf] at hy; cases hy
      exact he s H cc cl fp x q y hx (okR_some hf)) hc hs
/-- one of them raises -/
theorem sx_lcR {er : Err} (tk : Takes X W) (hm : compR f xs = some (.er er)) (dc : α → List Cell) (nd : X.N.Nodup) (ok : BlkOk X.N X.env.scope scope own) (hi : SI X tg iter C O O1 ps) (hps : ps = xs.map vpa) (hz : xs.length ≤ 1000)
    (hu : ∀ i ∈ own.map (·.2), ∀ c, C[i]? = some c → c = .u) (hns : ∀ n ∈ ns, n ∈ own.map (·.2)) (hdl : ∀ x, (dc x).length = C.length) (hdc : ∀ x i, i ∉ own.map (·.2) → C[i]? = (dc x)[i]?)
    (hg : ∀ s H cc cl fp x, SG (BlkX X scope s H cc cl fp) tg C (vpa x) (dc x) ns)
    (he : ∀ s H cc cl fp x q y, x ∈ xs → f x = some (.ok y) → PE (BlkX X scope s H cc cl fp) elt (rdE (dc x) (O1 ++ [some q]) (O1 ++ [some q]) (vpb y)))
    (hx : ∀ (W' : WX) s H cc cl fp x q, Takes (BlkX X scope s H cc cl fp) W' → x ∈ xs → f x = some (.er er) → PE (BlkX X scope s H cc cl fp) elt (rdX W' (dc x) (O1 ++ [some q]) (O1 ++ [some q]) (erOf er)))
    (hcl : C.all (Cell.lt O1.length) = true := by rfl) (hst : X.stack = X.env :: X.outer := by rfl) (hf : X.env.frame = some X.env.locals := by rfl) (hc : X.calm = true := by rfl) (hs : ∀ x, foldedSetIterable iter X.env x = pure x := by intro _; rfl) : SX X W (.ListComp elt [⟨tg, iter, [], 0⟩] scope pos) C O O1 (erOf er) := by
  refine imp (pe_lcX (g := fun v σ H Q => ∃ x : α, True ∧ rdG C (vpa x) (dc x) ns v σ H Q) (te := fun σ σ2 H2 Q => (∃ i : α × OP × β, (i.1 ∈ xs ∧ f i.1 = some (.ok i.2.2)) ∧ rdE (dc i.1) (O1 ++ [some i.2.1]) (O1 ++ [some i.2.1]) (vpb i.2.2) σ2 H2 Q) ∨ ∃ i : α × OP, (i.1 ∈ xs ∧ f i.1 = some (.er er)) ∧ rdX (fun cls d _ H' => W cls d σ H') (dc i.1) (O1 ++ [some i.2]) (O1 ++ [some i.2]) (erOf er) σ2 H2 Q)
    tk hst hf hc nd hi ok (fun s H cc cl fp => pg_ex fun x _ => hg s H cc cl fp x) (fun s H cc cl fp => pts_nil) (fun σ s H cc cl fp tk' => ⟨fun pins s' σ2 H2 Q I2 w => ?_⟩) hs) fun σ H Q ⟨Φ, F, A, E, k⟩ => ?_
  · rcases w with ⟨i, h, w⟩ | ⟨i, h, w⟩
    · exact (he s H cc cl fp i.1 i.2.1 i.2.2 h.1 h.2).run pins s' σ2 H2 Q I2 w
    · exact (hx _ s H cc cl fp i.1 i.2 tk' h.1 h.2).run pins s' σ2 H2 Q I2 w
  obtain ⟨pre, z, post, e1, e2, e3⟩ := compR_er hm
  refine ⟨Φ, F, A, E, fun J F1 H1 A1 l1 E1 Y D hD => ?_⟩
  have E2 : Ev Φ F1 (upd H1 D (.lst [])) (wipe σ (own.map (·.2))) C (O1 ++ [some (pinO D (lstO (([] : List β).map vpb)))]) (A1 ++ [(D, [D])]) := (E1.own (q := pinO D (lstO [])) (a := D) (fp := [D]) (E1.beside hD) ⟨rfl, rfl, [], upd_same, .nil⟩ fun b hb => by
    rw [List.mem_singleton.mp hb]
    exact ⟨hD, by rw [upd_same]; exact Option.some_ne_none _⟩).but hu wipe_but
  refine ⟨fun i m H' => m = xs.length - i ∧ ∃ (acc : List β) (F' : Hp) (A' : List (Addr × List Addr)), i ≤ pre.length ∧ acc.length ≤ i ∧ Le F1 F' ∧ Ev Φ F' H' (wipe σ (own.map (·.2))) C (O1 ++ [some (pinO D (lstO (acc.map vpb)))]) A', ⟨_, rfl, [], F1, _, Nat.zero_le _, Nat.le_refl _, Le.refl, E2⟩, ?_⟩
  rintro i m H' ⟨rfl, acc, F', A', hi', ha, l', E'⟩
  obtain ⟨y1, y2⟩ := Y i F' H' l' E'.fh
  have hlen : pre.length < xs.length := by rw [e1]; simp
  have hlt : i < xs.length := by omega
  have hx' : xs[i]? = some xs[i] := List.getElem?_eq_getElem hlt
  obtain ⟨g1, g2⟩ := y2 (vpa xs[i]) (by rw [hps, List.getElem?_map, hx']; rfl)
  refine .inr ⟨g1, fun H2 => ∃ (acc2 : List β) (F2 : Hp) (A2 : List (Addr × List Addr)), i + 1 ≤ pre.length ∧ acc2.length ≤ i + 1 ∧ Le F1 F2 ∧ Ev Φ F2 H2 (wipe σ (own.map (·.2))) C (O1 ++ [some (pinO D (lstO (acc2.map vpb)))]) A2, ?_, ?_⟩
  · rintro H2 ⟨acc2, F2, A2, h0, h1, l2, E2⟩
    exact ⟨xs.length - (i + 1), by omega, rfl, acc2, F2, A2, h0, h1, l2, E2⟩
  rintro v H3 hy
  obtain ⟨F3, l3, E3, h3⟩ := item_out (F' := F') (H' := H') E' (g2 v H3 hy)
  refine ⟨xs[i], trivial, _, F3, _, A', E3, h3, fun σ2 bt E4 => ⟨wipe_eq bt hns, ?_⟩⟩
  dsimp only [tYes]
  rw [if_pos rfl]
  have back : ∀ {F H O A}, Ev Φ F H σ2 (dc xs[i]) O A → Ev Φ F H (wipe σ (own.map (·.2))) C O A := fun {F H O A} Ex => ⟨Ex.ck.but hu (hdl _).symm (hdc _) ⟨bt.1.symm, fun k hk => (bt.2 k fun z => hk (hns k z)).symm⟩, Ex.len, Ex.ob, Ex.no, Ex.dj, Ex.pre, Ex.fh, Ex.ff, Ex.kp, Ex.nw, Ex.dm, Ex.pm⟩
  by_cases hp : i < pre.length
  · have hmem : xs[i] ∈ pre := by
      have : xs[i]? = pre[i]? := by rw [e1, List.getElem?_append_left hp]
      rw [hx'] at this
      exact List.mem_of_getElem? this.symm
    obtain ⟨y, hy⟩ := e2 _ hmem
    refine .inl ⟨(xs[i], pinO D (lstO (acc.map vpb)), y), ⟨List.getElem_mem hlt, hy⟩, _, F3, A', E4, fun F6 H6 w A6 l6 E6 hw => ?_⟩
    have hO6 : (O1 ++ [some (pinO D (lstO (acc.map vpb)))])[O1.length]? = some (some (pinO D (lstO (acc.map vpb)))) := by simp
    obtain ⟨a', fp', hfp, Jo⟩ := E6.ob _ _ hO6
    obtain ⟨rfl, rfl, vs', hv', al⟩ := Jo.ok
    have hl2 := al.len
    rw [List.length_map] at hl2
    refine ⟨vs', hv', Nat.lt_of_le_of_lt (m := 1000) (by omega) (by decide), acc ++ [y], F6, A6.set O1.length (a', [a']), hp, by simp; omega, l'.trans (l3.trans l6), ?_⟩
    have E7 := E6.write (H' := upd H6 a' (.lst (vs' ++ [w]))) (q' := pinO a' (lstO ((acc ++ [y]).map vpb))) (fp' := [a']) hO6 hfp rfl ⟨rfl, rfl, _, upd_same, by rw [List.map_append]; exact al.app (.cons hw .nil)⟩
      (fun b hb _ => upd_ne (fun z => hb (List.mem_singleton.mpr z))) (fun b hb => by
        by_cases z : b = a'
        · rw [z, upd_same]; exact Option.some_ne_none _
        · rw [upd_ne z]; exact hb) (fun b hb => ⟨.inl hb, by rw [List.mem_singleton.mp hb, upd_same]; exact Option.some_ne_none _⟩)
    have hset : (O1 ++ [some (pinO a' (lstO (acc.map vpb)))]).set O1.length (some (pinO a' (lstO ((acc ++ [y]).map vpb)))) = O1 ++ [some (pinO a' (lstO ((acc ++ [y]).map vpb)))] := by simp
    rw [hset] at E7
    exact back E7
  · have hi2 : i = pre.length := by omega
    have hz2 : xs[i] = z := by
      have : xs[i]? = some z := by rw [e1, hi2, List.getElem?_append_right (Nat.le_refl _)]; simp
      rw [hx'] at this
      exact Option.some.inj this
    refine .inr ⟨(xs[i], pinO D (lstO (acc.map vpb))), ⟨List.getElem_mem hlt, by rw [hz2]; exact e3⟩, _, F3, A', E4, fun F6 H6 A6 d l6 E6 hd => ?_⟩
    have E8 := (back E6).but (vs := own.map (·.2)) hu wipe_but.symm
    have E9 := E8.trunc (n := O1.length) hcl E1.asl
    rw [List.take_left] at E9
    exact k F6 H6 _ d (l1.trans (l'.trans (l3.trans l6))) E9 hd
end
end SIM

end
section
namespace SIM
open PySem L2 PyProof.Rows
/-! a property of an instance that never changes; a generator method, drained -/
structure Rom where
  shares : Int
  to_come : Lst (List (Option Int × Option Int))
  cloth : Lst (Int × (Int × Int))
instance [W : Wd] : Rp Rom := ⟨fun l => insP W.room ["_shares", "_to_come", "_cloth"] [vp l.shares, vp l.to_come, vp l.cloth]⟩
instance [Wd] : Nn Rom := ⟨fun {F v a} h => by obtain ⟨p, dx, vs, rfl, _⟩ := h; exact fun z => nomatch z⟩
def spG {ι : Type} (P : ι → Prop) (D : ι → List Cell) (O : ι → Ob) (ps : ι → List VP) : SpG := fun vs H cont _ => ∃ i, P i ∧ ∃ F A, Ev (frmOf F H A) F H (vs.map some) (D i) (O i) A ∧ ∀ F' H' ys A', Ev (frmOf F H A) F' H' [] [] (O i) A' → Al F' ys (ps i) → cont ys H'
def Gmeth (P : Program) (w : World) (K : PySem.W.Frag) (mg : Str → Option Value) (base : Heap) (k : Nat) (Ca : Addr) (m : Str) (ps : List Str) (sp : SpG) : Prop :=
  ∃ f fd, Cls K Ca ∧ Meth K Ca m f ∧ GFn P w K mg base k f fd ps sp ∧ Binds K fd ps []
section
variable {X : Cx} {W : WX} {C C' C1 C2 : List Cell} {O O' O1 O2 O3 : Ob} {p r : VP} {q : OP} {ps qs : List VP} {tg elt e iter : Expr} {es ts : List Expr} {pos p1 p2 p3 apos : Pos} {ns : List Str} {Ca : Addr} {mm x : Str}
theorem se_propD {m n : Nat} {pn : List Str} {js : List Nat} {ι : Type} {P : ι → Prop} {D0 : ι → List Cell} {O0 : ι → Ob} {r : ι → Ret} (hf : Pdef X.prog X.w X.K X.mg X.base m Ca mm pn (spM P D0 O0 r)) (hr : Room n X.A)
    (i : ι) (hi : P i) (h : SE X e C O O1 (insP Ca ns ps)) (hR : r i = .v p O') (ad : AD C js [.v (insP Ca ns ps)] (D0 i)) (hO : O0 i = inO O1 js) (hO2 : outO O1 js O' = O3) (hmn : m + 1 ≤ n := by decide) (nd : js.Nodup := by decide) (hl : O'.length = js.length := by rfl) (hj : ∀ j ∈ js, ∃ p, O1[j]? = some (some p) := by exact hjs rfl)
    (hab : attributeBase e mm X.env (eval e X.env) = eval e X.env := by rfl) : SE X (.Attribute e mm pos) C O O3 p := by
  obtain ⟨pa, g, fd, cl, hp, F, hb⟩ := hf
  subst hO2
  exact imp (pe_prop (E := E0) h cl hp F (hr.mono hmn) hb .nil passL hab) fun σ H Q ⟨Φ, F, A, E, w⟩ => ⟨Φ, F, A, E, fun F1 H1 x A1 l1 E1 hx => by
    obtain ⟨a, dx, vs, rfl, hF, al⟩ := hx
    refine ⟨a, dx, _, rfl, E1.fh _ _ hF, i, hi, ?_⟩
    rw [hO, hR]
    exact call_v E1 hj nd ad (.v ⟨a, dx, vs, rfl, hF, al⟩ .nil) hl fun F' H' v A' l E' hp => w F' H' v A' (l1.trans l) E' hp⟩
/-- list(e.m()) -/
theorem so_listG {m n : Nat} {pn : List Str} {ι : Type} {P : ι → Prop} {D0 : ι → List Cell} {O0 : ι → Ob} {r : ι → List VP} (hm : X.mg "list" = none) (hf : Gmeth X.prog X.w X.K X.mg X.base m Ca mm pn (spG P D0 O0 r)) (hr : Room n X.A)
    (i : ι) (hi : P i) (h : SE X e C O O1 (insP Ca ns qs)) (hD : D0 i = [.v (insP Ca ns qs)]) (hO : O0 i = []) (hp : r i = ps) (hl0 : ixOf ns mm = none := by decide +kernel) (hmn : m + 3 ≤ n := by decide)
    (hg : Gl X "list" := by rfl) (hs : starEach [Expr.Call (.Attribute e mm apos) [] [] p1] X.env = (false, eval (Expr.Call (.Attribute e mm apos) [] [] p1) X.env) :: starEach [] X.env := by rfl)
    {pl : Sem Bool} (ht : eval (.Call (.Attribute e mm apos) [] [] p1) X.env = (do
      let ov ← eval e X.env
      standAt apos.atName
      let (f, first) ← holding [ov] (getMethod ov mm pl)
      callWith p1 f first (backTo p1 (starEach [] X.env)) (backToKw p1 (keywordEach [] X.env))) := by rfl) :
    SO X (.Call (.Name "list" p2) [.Call (.Attribute e mm apos) [] [] p1] [] pos) C O O1 (lstO ps) := by
  obtain ⟨f, fd, cl, hme, F, hb⟩ := hf
  refine imp (pe_listG (E := E0) (pgen_meth0 (pl := pl) h cl hme F (hr.mono (Nat.le_trans (Nat.le_add_right _ 3) hmn)) hb .nil ht) passL (fun _ _ _ z => z.elim) (hr.mono hmn) hg hm rfl (he := hs)) fun σ H Q ⟨Φ, Fx, A, E, w⟩ => ⟨Φ, Fx, A, E, fun F1 H1 x A1 l1 E1 hx => ?_⟩
  obtain ⟨a, dx, vs, rfl, hF, al⟩ := hx
  refine ⟨a, dx, _, rfl, E1.fh _ _ hF, nolookup_zip hl0, i, hi, F1, pick A1 (0, []) [], ?_, fun F' H' ys A' E' al' => ?_⟩
  · have Z := E1.enter (js := []) (fun j h => nomatch h) List.nodup_nil (AD.cks (as := [.v (insP Ca ns qs)]) E1 (.v .nil) (.v (⟨a, dx, vs, rfl, hF, al⟩ : (insP Ca ns qs).p F1 (.ref a)) .nil))
    rw [hD, hO]
    exact Z
  · rw [hO] at E'
    rw [hp] at al'
    have L := E1.leave (js := []) (O' := []) (fun j h => nomatch h) List.nodup_nil rfl E'
    intro b hb
    have N := Ev.newList (show Ev Φ F' H' σ C O1 _ from L) hb al'
    exact w F' _ _ _ b [b] (l1.trans E'.ff) N (show Ev Φ F' H' σ C O1 _ from L).asl rfl (lastA L.len)
end
end SIM

end
namespace K2
open PySem L2 PyProof.Rows SIM
noncomputable section
def prs : Err → Bool
  | .e c => match c with
    | .badBolt => true
    | .badShares => true
    | .noBolt => true
    | _ => false
def m_checked_washings (a_washings : (Lst ((Option Int) × (Option Int)))) (a_shares : Int) : Option (Res Err ((List ((Option Int) × (Option Int))))) :=
  if (decide ((4 : Int) < (a_washings.l.length : Int))) = true then (some (.er (Err.e .badBolt))) else (goR (loopM (ε := Err) (ρ := ((List ((Option Int) × (Option Int))))) (fun (x1 : ((Option Int) × (Option Int))) (s2 : Unit) => goC (loopM (ε := Err) (ρ := ((List ((Option Int) × (Option Int))))) (fun (x4 : (Option Int)) (s5 : Unit) => Option.bind (optE x4 (some false) fun v7 =>  some (!((decide ((0 : Int) ≤ v7)) && (decide (v7 < a_shares))))) fun b8 => if b8 = true then (some (.ex (Err.e .badBolt))) else (some (.nx ()))) ([x1.1, x1.2] : (List (Option Int))) ()) fun r6 => some (.nx ())) a_washings.l ()) fun r3 => some (.ok a_washings.l))
def m_Room_init (a_shares : Int) (a_bolts : (Lst (Lst ((Option Int) × (Option Int))))) : Option (Res Err (Rom)) :=
  if (!((decide ((1 : Int) ≤ a_shares)) && (decide (a_shares ≤ (4 : Int))))) = true then (some (.er (Err.e .badShares))) else (if (!((decide ((1 : Int) ≤ (a_bolts.l.length : Int))) && (decide ((a_bolts.l.length : Int) ≤ (4 : Int))))) = true then (some (.er (Err.e .badBolt))) else (Option.bind (lenOk a_bolts.l) fun z3 => bindR (compR (fun (x1 : (Lst ((Option Int) × (Option Int)))) => (bindR (m_checked_washings x1 a_shares) fun r2 => some (.ok r2) : Option (Res Err (List ((Option Int) × (Option Int)))))) a_bolts.l) fun r4 => some (.ok (Rom.mk a_shares (Lst.mk r4) (Lst.mk ([] : (List (Int × (Int × Int)))))))))
def m_Room_pieces (a_self : Rom) : Option (Int) :=
  some (a_self.cloth.l.length : Int)
def m_Room__check_bolt (a_self : Rom) (a_bolt : Int) : Option (Res Err (Unit)) :=
  if (!((decide ((0 : Int) ≤ a_bolt)) && (decide (a_bolt < (a_self.to_come.l.length : Int))))) = true then (some (.er (Err.e .noBolt))) else (some (.ok ()))
def m_Room_coming (a_self : Rom) (a_bolt : Int) : Option (Res Err (Int)) :=
  bindR (m_Room__check_bolt a_self a_bolt) fun r1 =>
  Option.bind (ixL a_self.to_come.l a_bolt) fun x2 =>
  some (.ok (x2.length : Int))
def m_Room_walk (a_self : Rom) : Option (List (T3 Int Int Int)) := if a_self.cloth.l = [] then some [] else none
def m_law_pool (a_script : Scr) : Option (Pool) :=
  some (Pool.mk a_script.l (0 : Int) (0 : Int) (0 : Int))
def m_law_take (a_pool_here : Pool) (a_size : Int) : Option (Int × Pool) :=
  Option.bind (if (decide (({ a_pool_here with turn := (a_pool_here.turn + (1 : Int)) } : Pool).big = (0 : Int))) = true then (Option.bind (if (decide (({ a_pool_here with turn := (a_pool_here.turn + (1 : Int)) } : Pool).at_ < (a_pool_here.cells.length : Int))) = true then (Option.bind (ixL a_pool_here.cells (({ a_pool_here with turn := (a_pool_here.turn + (1 : Int)) } : Pool).at_)) fun x1 => Option.bind (powI (10 : Int) (18 : Int)) fun t2 => some (decide (t2 ≤ x1))) else some false) fun b3 => some b3) else some false) fun b4 =>
  Option.bind (if b4 = true then (Option.bind (ixL a_pool_here.cells (({ a_pool_here with turn := (a_pool_here.turn + (1 : Int)) } : Pool).at_)) fun x6 => some ({ ({ ({ a_pool_here with turn := (a_pool_here.turn + (1 : Int)) } : Pool) with big := x6 } : Pool) with at_ := (({ ({ a_pool_here with turn := (a_pool_here.turn + (1 : Int)) } : Pool) with big := x6 } : Pool).at_ + (1 : Int)) } : Pool)) else (some ({ a_pool_here with turn := (a_pool_here.turn + (1 : Int)) } : Pool))) fun r5 =>
  if (decide ((0 : Int) < r5.big)) = true then (Option.bind (modI r5.big a_size) fun t7 => Option.bind (divI r5.big a_size) fun t8 => some (t7, ({ r5 with big := t8 } : Pool))) else (if (decide ((a_pool_here.cells.length : Int) = (0 : Int))) = true then (Option.bind (modI a_pool_here.turn a_size) fun t9 => some (t9, r5)) else (Option.bind (modI r5.at_ (a_pool_here.cells.length : Int)) fun t10 => Option.bind (ixL a_pool_here.cells t10) fun x11 => Option.bind (mulI (x11 + (2 : Int)) (a_pool_here.turn + (3 : Int))) fun t12 => Option.bind (mulI t12 (37 : Int)) fun t13 => Option.bind (mulI a_pool_here.turn a_pool_here.turn) fun t14 => Option.bind (modI (t13 + t14) (1009 : Int)) fun t15 => Option.bind (modI t15 a_size) fun t16 => some (t16, ({ r5 with at_ := (r5.at_ + (1 : Int)) } : Pool))))
def m_law_whole (a_x : Int) : Option (Bool) :=
  some (true && (!false))
def m_law_made (a_many : Int) (a_bolts : (Lst (Lst ((Option Int) × (Option Int))))) : Option ((Str × (Option Rom))) :=
  goF (tryM (bindX (m_Room_init a_many a_bolts) fun r3 => some (.rt (("made" : Str), (some r3))) : Option (Ctl Err ((Str × (Option Rom))) Empty)) (fun e_ => (if prs e_ = true then (if catches .badShares e_ = true then (some (.rt (("BadShares" : Str), (none : (Option Rom))))) else (if catches .badBolt e_ = true then (some (.rt (("BadBolt" : Str), (none : (Option Rom))))) else (none))) else none : Option (Ctl Empty ((Str × (Option Rom))) Empty)))) fun s1 =>
  s1.elim
def m_law_no_bolt (a_room : Rom) (a_bolt : Int) : Option (Bool) :=
  goF (tryM (bindX (m_Room_coming a_room a_bolt) fun r3 => some (.rt (decide ((Lst.mk ([r3] : (List Int))) = (Lst.mk ([] : (List Int)))))) : Option (Ctl Err (Bool) Empty)) (fun e_ => (if prs e_ = true then (if catches .noBolt e_ = true then (some (.rt true)) else (none)) else none : Option (Ctl Empty (Bool) Empty)))) fun s1 =>
  s1.elim
def m_law (a_script : Scr) : Option (Bool) :=
  Option.bind (m_law_pool a_script) fun r1 =>
  Option.bind (m_law_take r1 (4 : Int)) fun r2 =>
  Option.bind (m_law_take r2.2 (6 : Int)) fun r3 =>
  Option.bind (if (decide (r3.1 = (4 : Int))) = true then (Option.bind (m_law_take r3.2 (4 : Int)) fun r5 => Option.bind (ixL ([(-(1 : Int)), (0 : Int), (5 : Int), (6 : Int)] : (List Int)) r5.1) fun x6 => some (x6, r5.2)) else (some (((1 : Int) + r2.1), r3.2))) fun r4 =>
  Option.bind (m_law_take r4.2 (3 : Int)) fun r7 =>
  Option.bind (if (decide (r7.1 = (1 : Int))) = true then (Option.bind (m_law_take r7.2 (7 : Int)) fun r8 => some (r8.1, r8.2)) else (Option.bind (m_law_take r7.2 (4 : Int)) fun r9 => some (((1 : Int) + r9.1), r9.2))) fun c10 =>
  Option.bind (rngM 0 c10.1) fun l11 =>
  Option.bind (foldM (fun (x12 : Int) (s13 : (Pool × (List (Lst ((Option Int) × (Option Int)))))) => Option.bind (if (decide (r7.1 = (2 : Int))) = true then (Option.bind (m_law_take s13.1 (7 : Int)) fun r15 => some (r15.1, r15.2)) else (Option.bind (m_law_take s13.1 (5 : Int)) fun r16 => some (r16.1, r16.2))) fun c17 => Option.bind (rngM 0 c17.1) fun l18 => Option.bind (foldM (fun (x19 : Int) (s20 : (Pool × (List ((Option Int) × (Option Int))))) => Option.bind (rngM 0 (2 : Int)) fun l22 => Option.bind (foldM (fun (x23 : Int) (s24 : (Pool × (List (Option Int)))) => Option.bind (m_law_take s24.1 (max (1 : Int) r4.1)) fun r26 => Option.bind (setM s24.2 x23 (some r26.1)) fun l27 => Option.bind (m_law_take r26.2 (24 : Int)) fun r28 => Option.bind (if (decide (r28.1 = (5 : Int))) = true then (Option.bind (m_law_take r28.2 (5 : Int)) fun r30 => Option.bind (ixL ([(-(1 : Int)), r4.1, (-(2 : Int)), (-r4.1), (r4.1 + (1 : Int))] : (List Int)) r30.1) fun x31 => Option.bind (setM l27 x23 (some x31)) fun l32 => some (r30.2, l32)) else (some (r28.2, l27))) fun r29 => Option.bind (if ((decide ((6 : Int) ≤ r28.1)) && (decide (r28.1 ≤ (11 : Int)))) = true then (Option.bind (setM r29.2 x23 (none : (Option Int))) fun l34 => some l34) else (some r29.2)) fun r33 => some (r29.1, r33)) l22 (s20.1, ([(some (0 : Int)), (some (0 : Int))] : (List (Option Int))))) fun r25 => Option.bind (ixL r25.2 (0 : Int)) fun x35 => Option.bind (ixL r25.2 (1 : Int)) fun x36 => Option.bind (appM s20.2 (x35, x36)) fun l37 => some (r25.1, l37)) l18 (c17.2, ([] : (List ((Option Int) × (Option Int)))))) fun r21 => Option.bind (appM s13.2 (Lst.mk r21.2)) fun l38 => some (r21.1, l38)) l11 (c10.2, ([] : (List (Lst ((Option Int) × (Option Int))))))) fun r14 =>
  Option.bind (lenOk r14.2) fun z41 =>
  Option.bind (compM (fun (x39 : (Lst ((Option Int) × (Option Int)))) (s40 : Unit) => some true) (fun (x39 : (Lst ((Option Int) × (Option Int)))) (s40 : Unit) =>  some ((Lst.mk x39.l), ())) r14.2 ()) fun y42 =>
  Option.bind (m_law_made r4.1 (Lst.mk y42.1)) fun r43 =>
  if ((decide (r4.1 < (1 : Int))) || (decide ((4 : Int) < r4.1))) = true then (some (decide (r43.1 = ("BadShares" : Str)))) else (Option.bind (foldM (fun (x44 : (Lst ((Option Int) × (Option Int)))) (s45 : (Bool)) => Option.bind (foldM (fun (x47 : ((Option Int) × (Option Int))) (s48 : (Bool)) => Option.bind (foldM (fun (x50 : (Option Int)) (s51 : (Bool)) => Option.bind (if s51 = true then (Option.bind (optE x50 (some true) fun v53 =>  some ((decide ((0 : Int) ≤ v53)) && (decide (v53 < r4.1)))) fun b54 => some b54) else some false) fun b55 => some b55) ([x47.1, x47.2]) s48) fun r52 => some r52) x44.l (s45 && (decide ((x44.l.length : Int) ≤ (4 : Int))))) fun r49 => some r49) r14.2 ((decide ((1 : Int) ≤ (r14.2.length : Int))) && (decide ((r14.2.length : Int) ≤ (4 : Int))))) fun r46 => if (!r46) = true then (some (decide (r43.1 = ("BadBolt" : Str)))) else (Option.bind (if (!decide (r43.1 = ("made" : Str))) = true then some true else (Option.bind (r43.2) fun v56 => Option.bind (m_Room_pieces v56) fun r57 => Option.bind (m_law_whole r57) fun r58 => some ((!r58) || (!decide (r57 = (0 : Int)))))) fun b59 => if b59 = true then (some false) else (Option.bind (rngM 0 (r14.2.length : Int)) fun l60 => goF (loopM (ε := Empty) (ρ := (Bool)) (fun (x61 : Int) (s62 : Unit) => Option.bind (r43.2) fun v64 => Option.bind (okR (m_Room_coming v64 x61)) fun r65 => Option.bind (m_law_whole r65) fun r66 => Option.bind (if (!r66) = true then some true else (Option.bind (ixL r14.2 x61) fun x67 => some (!decide (r65 = (x67.l.length : Int))))) fun b68 => if b68 = true then (some (.rt false)) else (some (.nx ()))) l60 ()) fun r63 => goF (loopM (ε := Empty) (ρ := (Bool)) (fun (x69 : Int) (s70 : Unit) => Option.bind (r43.2) fun v72 => Option.bind (m_law_no_bolt v72 x69) fun r73 => if (!r73) = true then (some (.rt false)) else (some (.nx ()))) ([(-(1 : Int)), (-(2 : Int)), (-(r14.2.length : Int)), (r14.2.length : Int), ((r14.2.length : Int) + (900 : Int))] : (List Int)) ()) fun r71 => Option.bind (r43.2) fun v74 => Option.bind (m_Room_walk v74) fun r75 => some (decide ((Lst.mk r75) = (Lst.mk ([] : (List (T3 Int Int Int)))))))))
end
end K2

namespace K2
open PySem L2 PyProof.Rows SIM
def top (i : Nat) : Stmt := PySem.Challenge.pw_twicewashed_k11_room_refuses_bolts.main.body.getD i (.Pass ⟨0, 0, 0, 0⟩)
structure Gw [Wd] (K : PySem.W.Frag) (mg : Str → Option Value) : Prop where
  kk : K = Wd.frag
  a_Room__cloth : NoAttr K Wd.room "_cloth"
  a_Room__shares : NoAttr K Wd.room "_shares"
  a_Room__to_come : NoAttr K Wd.room "_to_come"
  b_bool : mg "bool" = none
  b_int : mg "int" = none
  b_isinstance : mg "isinstance" = none
  b_len : mg "len" = none
  b_list : mg "list" = none
  b_max : mg "max" = none
  b_range : mg "range" = none
  b_tuple : mg "tuple" = none
  c_Room : ClF K mg "Room" Wd.room
  e_BadBolt : ErF K mg "BadBolt" (Wd.er .badBolt)
  e_BadShares : ErF K mg "BadShares" (Wd.er .badShares)
  e_NoBolt : ErF K mg "NoBolt" (Wd.er .noBolt)
  n_MOST_BOLTS : ∃ t, mg "MOST_BOLTS" = some (.int 4 t)
  n_MOST_SHARES : ∃ t, mg "MOST_SHARES" = some (.int 4 t)
  n_MOST_WASHINGS : ∃ t, mg "MOST_WASHINGS" = some (.int 4 t)
  t_int_bool : PySem.W.kitOne K (.type "int") (.type "bool") = some false
  y_BadBolt : ∀ e, prs e = true → PySem.W.exmOne K (.ref (erOf e).cls) (.ref (Wd.er .badBolt)) = some (catches .badBolt e)
  y_BadShares : ∀ e, prs e = true → PySem.W.exmOne K (.ref (erOf e).cls) (.ref (Wd.er .badShares)) = some (catches .badShares e)
  y_NoBolt : ∀ e, prs e = true → PySem.W.exmOne K (.ref (erOf e).cls) (.ref (Wd.er .noBolt)) = some (catches .noBolt e)
abbrev s_checked_washings : Stmt := top 11
theorem sc_checked_washings : FnScope ["washings", "shares", "along", "across", "share"] ["washings", "shares"] (defScope s_checked_washings) := ⟨rfl, rfl, rfl, by decide +kernel, rfl, by decide +kernel, by decide +kernel⟩
abbrev sp_checked_washings [Wd] : Sp := spM (ι := ((Lst ((Option Int) × (Option Int))) × Int) × (Res Err ((List ((Option Int) × (Option Int)))))) (fun i => m_checked_washings i.1.1 i.1.2 = some i.2) (fun i => [.v (vp i.1.1), .v (vp i.1.2)]) (fun i => []) (fun i => match i.2 with | .ok r_ => Ret.v (vp r_) [] | .er e_ => Ret.x (erOf e_) [])
theorem ok_checked_washings [Wd] {P : Program} {w : World} {K : PySem.W.Frag} {mg : Str → Option Value} {base : Heap} {f : Addr} {fd : FuncData} (F : Fun K "_checked_washings" "_checked_washings" s_checked_washings f fd) (G : Gw K mg)  : FnOk P w K mg base (L2.CX P w) 1 f fd ["washings", "shares"] sp_checked_washings := by
  refine okM F sc_checked_washings (fun _ => rfl) ?_
  rintro ⟨⟨a_washings, a_shares⟩, r⟩ hm cdv A outer s H E hr
  have nd := sc_checked_washings.nd
  have tk := takes_of (X := cxOf (L2.CX P w) P w K mg base ["washings", "shares", "along", "across", "share"] "_checked_washings" (defScope s_checked_washings) f cdv A outer s H E) (E := E) rfl rfl rfl rfl
  refine ⟨(match r with | .ok r_ => Out.rt (vp r_) [] | .er e_ => Out.ex (erOf e_) (us 5) []), (by cases r <;> first | exact .rt rfl | exact .ex rfl), ?_⟩
  replace hm : m_checked_washings a_washings a_shares = some r := hm
  unfold m_checked_washings at hm
  refine sb_ifL (st_gt (se_lenLt G.b_len (sl_F (l := a_washings) (se_var 0))) (se_gi (i := 4) G.n_MOST_WASHINGS)) (fun hc => ?_) (fun hc => ?_)
  · replace hm := ifp hm hc
    have e_ := sinj hm
    subst e_
    exact (sb_ende (ss_raise tk G.e_BadBolt (by repeat (first | exact Wk.nil | refine Wk.same ?_ | refine Wk.drop ?_))))
  · replace hm := ifb hm hc
    refine sb_goR hm (fun (c_ : Ctl Err ((List ((Option Int) × (Option Int)))) Unit) => match c_ with | .nx s2 => Out.nx [.v (vp a_washings), .v (vp a_shares), .u, .u, .u] [] | .rt r_ => Out.rt (vp r_) [] | .ex e_ => Out.ex (erOf e_) (us 5) []) (fun (r3 : Unit) => [.v (vp a_washings), .v (vp a_shares), .u, .u, .u]) (fun (r3 : Unit) => []) (fun c_ hq_ => ?_) (fun _ => rfl) (fun _ z => by subst z; rfl) (fun _ _ => rfl) (fun _ z => by subst z; rfl) (fun _ => rfl) (fun r3 h_r3 hm => ?_)
    · refine ss_for (vpa := vp) hq_ (fun (s2 : Unit) => [.v (vp a_washings), .v (vp a_shares), .u, .u, .u]) (fun (s2 : Unit) => []) (fun (c_ : Ctl Err ((List ((Option Int) × (Option Int)))) Unit) => match c_ with | .nx s2 => Out.nx [.v (vp a_washings), .v (vp a_shares), .u, .u, .u] [] | .rt r_ => Out.rt (vp r_) [] | .ex e_ => Out.ex (erOf e_) (us 5) []) (fun (x1 : ((Option Int) × (Option Int))) (s2 : Unit) => [.v (vp a_washings), .v (vp a_shares), .v (vp x1.1), .v (vp x1.2), .u]) rfl (passes_of rfl) rfl (si_F (l := a_washings) (se_var 0)) (fun _ => rfl) (fun _ => rfl) (fun _ => rfl) ?_ rfl (fun x1 s2 => (sg_tup rfl (sgs_cons (sg_name 2 nd) (sgs_cons (sg_name 3 nd) sgs_nil)))) ?_
      · repeat (first | exact Wk.nil | refine Wk.same ?_ | refine Wk.drop ?_)
      · rintro x1 s2 c_2 hin_ hf
        refine sb_goC hf (fun (c_ : Ctl Err ((List ((Option Int) × (Option Int)))) Unit) => match c_ with | .nx s5 => Out.nx [.v (vp a_washings), .v (vp a_shares), .v (vp x1.1), .v (vp x1.2), .u] [] | .rt r_ => Out.rt (vp r_) [] | .ex e_ => Out.ex (erOf e_) (us 5) []) (fun (r6 : Unit) => [.v (vp a_washings), .v (vp a_shares), .v (vp x1.1), .v (vp x1.2), .u]) (fun (r6 : Unit) => []) (fun c_ hq_ => ?_) (fun _ => rfl) (fun _ z => by subst z; rfl) (fun _ _ => rfl) (fun _ z => by subst z; rfl) (fun _ => rfl) (fun r6 h_r6 hf => ?_)
        · refine ss_for (vpa := vp) hq_ (fun (s5 : Unit) => [.v (vp a_washings), .v (vp a_shares), .v (vp x1.1), .v (vp x1.2), .u]) (fun (s5 : Unit) => []) (fun (c_ : Ctl Err ((List ((Option Int) × (Option Int)))) Unit) => match c_ with | .nx s5 => Out.nx [.v (vp a_washings), .v (vp a_shares), .v (vp x1.1), .v (vp x1.2), .u] [] | .rt r_ => Out.rt (vp r_) [] | .ex e_ => Out.ex (erOf e_) (us 5) []) (fun (x4 : (Option Int)) (s5 : Unit) => [.v (vp a_washings), .v (vp a_shares), .v (vp x1.1), .v (vp x1.2), .v (vp x4)]) rfl (passes_of rfl) rfl (si_V (l := ([x1.1, x1.2] : (List (Option Int)))) (se_tupV ([x1.1, x1.2] : (List (Option Int))) (sa_v (se_var 2) (sa_v (se_var 3) sa_nil)))) (fun _ => rfl) (fun _ => rfl) (fun _ => rfl) ?_ rfl (fun x4 s5 => (sg_name 4 nd)) ?_
          · repeat (first | exact Wk.nil | refine Wk.same ?_ | refine Wk.drop ?_)
          · rintro x4 s5 c_2 hin_ hf
            obtain ⟨b8, h_b8, hf⟩ := bnd hf
            refine sb_ifL (st_of (swT b8 [] (sw_and (st_notN (se_var 4)) (fun z => by obtain ⟨v7, hx_v7⟩ := nisN_t z; replace h_b8 := optS h_b8 hx_v7; have e_ := sinj h_b8; subst e_; exact (sw_and1 (st_not (st_chain op_le op_lt se_int (se_some (se_var 4) hx_v7) (se_var 1))))) (fun z => by replace h_b8 := optN h_b8 (nisN_f z); have e_ := sinj h_b8; subst e_; exact ⟨rfl, rfl⟩)))) (fun hc => ?_) (fun hc => ?_)
            · replace hf := ifp hf hc
              have e_ := sinj hf
              subst e_
              exact (sb_ende (ss_raise tk G.e_BadBolt (by repeat (first | exact Wk.nil | refine Wk.same ?_ | refine Wk.drop ?_))))
            · replace hf := ifb hf hc
              have e_ := sinj hf
              subst e_
              exact sb_nilW (by repeat (first | exact Wk.nil | refine Wk.same ?_ | refine Wk.drop ?_))
        have e_ := sinj hf
        subst e_
        exact sb_nilW (by repeat (first | exact Wk.nil | refine Wk.same ?_ | refine Wk.drop ?_))
    have e_ := sinj hm
    subst e_
    exact sb_endr (ss_ret (se_tupleO G.b_tuple (sl_F (l := a_washings) (se_var 0))))
abbrev s_Room_init : Stmt := inClass (top 10) 0
theorem sc_Room_init : FnScope ["self", "shares", "bolts", "bolt"] ["self", "shares", "bolts"] (defScope s_Room_init) := ⟨rfl, rfl, rfl, by decide +kernel, rfl, by decide +kernel, by decide +kernel⟩
abbrev sp_Room_init [Wd] : Sp := spM (ι := (Int × (Lst (Lst ((Option Int) × (Option Int))))) × (Res Err (Rom))) (fun i => m_Room_init i.1.1 i.1.2 = some i.2) (fun i => [.o 0, .v (vp i.1.1), .v (vp i.1.2)]) (fun i => [some (insO false Wd.room [] [])]) (fun i => match i.2 with | .ok r_ => Ret.v (eqP .non) [some (insO false Wd.room ["_shares", "_to_come", "_cloth"] [vp r_.shares, vp r_.to_come, vp r_.cloth])] | .er e_ => Ret.x (erOf e_) [none])
theorem ok_Room_init [Wd] {P : Program} {w : World} {K : PySem.W.Frag} {mg : Str → Option Value} {base : Heap} {f : Addr} {fd : FuncData} (F : Fun K "__init__" "Room.__init__" s_Room_init f fd) (G : Gw K mg) (d_checked_washings : Def P w K mg base 1 "_checked_washings" ["washings", "shares"] sp_checked_washings) : FnOk P w K mg base (L2.CX P w) 2 f fd ["self", "shares", "bolts"] sp_Room_init := by
  refine okM F sc_Room_init (fun _ => rfl) ?_
  rintro ⟨⟨a_shares, a_bolts⟩, r⟩ hm cdv A outer s H E hr
  have nd := sc_Room_init.nd
  have tk := takes_of (X := cxOf (L2.CX P w) P w K mg base ["self", "shares", "bolts", "bolt"] "Room.__init__" (defScope s_Room_init) f cdv A outer s H E) (E := E) rfl rfl rfl rfl
  refine ⟨(match r with | .ok r_ => Out.nx (us 4) [some (insO false Wd.room ["_shares", "_to_come", "_cloth"] [vp r_.shares, vp r_.to_come, vp r_.cloth])] | .er e_ => Out.ex (erOf e_) (us 4) [none]), (by cases r <;> first | exact .nx | exact .ex rfl), ?_⟩
  replace hm : m_Room_init a_shares a_bolts = some r := hm
  unfold m_Room_init at hm
  refine sb_ifL (st_not (st_chain op_le op_le se_int (se_var 1) (se_gi (i := 4) G.n_MOST_SHARES))) (fun hc => ?_) (fun hc => ?_)
  · replace hm := ifp hm hc
    have e_ := sinj hm
    subst e_
    exact (sb_dropx (O1 := [some (insO false Wd.room [] [])]) 0 (sb_ende (ss_raise tk G.e_BadShares (by repeat (first | exact Wk.nil | refine Wk.same ?_ | refine Wk.drop ?_)))))
  · replace hm := ifb hm hc
    refine sb_ifL (st_not (st_chain op_le op_le se_int (se_lenLt G.b_len (sl_F (l := a_bolts) (se_var 2))) (se_gi (i := 4) G.n_MOST_BOLTS))) (fun hc => ?_) (fun hc => ?_)
    · replace hm := ifp hm hc
      have e_ := sinj hm
      subst e_
      exact (sb_dropx (O1 := [some (insO false Wd.room [] [])]) 0 (sb_ende (ss_raise tk G.e_BadBolt (by repeat (first | exact Wk.nil | refine Wk.same ?_ | refine Wk.drop ?_)))))
    · replace hm := ifb hm hc
      refine sb_cons (ss_fldN 0 0 G.c_Room.cl G.a_Room__shares (se_var 1) rfl (hO2 := (rfl : _ = [some (insO false Wd.room ["_shares"] [vp a_shares])]))) ?_
      obtain ⟨z3, h_z3, hm⟩ := bnd hm
      rcases bndR hm with ⟨e_r4, h_r4, he_⟩ | ⟨r4, h_r4, hm⟩
      · subst he_
        exact (sb_dropx (O1 := [some (insO false Wd.room ["_shares"] [vp a_shares])]) 0 (sb_ende (ssx_asg (sx_lcR (vpb := vp) (vpa := vp) tk h_r4 (dc := (fun (x_ : (Lst ((Option Int) × (Option Int)))) => [.o 0, .v (vp a_shares), .v (vp a_bolts), .v (vp x_)])) nd (blkOk_by (N := ["self", "shares", "bolts", "bolt"]) (sc := defScope s_Room_init) (own := [("bolt", 3)]) (by decide +kernel)) (si_F (l := a_bolts) (se_var 2)) rfl (of_if h_z3).1 (hu_of rfl) (by decide) (fun _ => rfl) (hdc_of (fun _ => rfl)) (fun s_ H_ cc_ cl_ fp_ x1 => (sg_name 3 nd)) (fun s_ H_ cc_ cl_ fp_ x1 q_ y_ hin_ he => by exact (bndR he).elim (fun ⟨_, _, he_⟩ => by cases he_) (fun ⟨r2, h_r2, he⟩ => by have e_ := sinj he; injection e_ with e_; rw [← e_]; exact (se_callD (js := []) (O2 := [some (insO false Wd.room ["_shares"] [vp a_shares]), some q_]) d_checked_washings hr ((x1, a_shares), (.ok r2)) h_r2 (sa_v (se_var 3) (sa_v (se_var 1) sa_nil)) rfl (.v (.v .nil)) rfl rfl))) (fun W_ s_ H_ cc_ cl_ fp_ x1 q_ tkb_ hin_ he => by exact (bndR he).elim (fun ⟨e_r2, h_r2, he_⟩ => by injection he_ with e_; rw [e_]; exact (sx_callD (js := []) tkb_ d_checked_washings hr ((x1, a_shares), (.er e_r2)) h_r2 (sa_v (se_var 3) (sa_v (se_var 1) sa_nil)) rfl (.v (.v .nil)) rfl rfl)) (fun ⟨_, _, he⟩ => by cases he))) pg_never (by repeat (first | exact Wk.nil | refine Wk.same ?_ | refine Wk.drop ?_)))))
      refine sb_cons (ss_fldN 0 0 G.c_Room.cl G.a_Room__to_come (se_fz (so_lcR (vpb := vp) (vpa := vp) h_r4 (dc := (fun (x_ : (Lst ((Option Int) × (Option Int)))) => [.o 0, .v (vp a_shares), .v (vp a_bolts), .v (vp x_)])) nd (blkOk_by (N := ["self", "shares", "bolts", "bolt"]) (sc := defScope s_Room_init) (own := [("bolt", 3)]) (by decide +kernel)) (si_F (l := a_bolts) (se_var 2)) rfl (of_if h_z3).1 (hu_of rfl) (by decide) (fun _ => rfl) (hdc_of (fun _ => rfl)) (fun s_ H_ cc_ cl_ fp_ x1 => (sg_name 3 nd)) (fun s_ H_ cc_ cl_ fp_ x1 q_ y_ hin_ he => by exact (bndR he).elim (fun ⟨_, _, he_⟩ => by cases he_) (fun ⟨r2, h_r2, he⟩ => by have e_ := sinj he; injection e_ with e_; rw [← e_]; exact (se_callD (js := []) (O2 := [some (insO false Wd.room ["_shares"] [vp a_shares]), some q_]) d_checked_washings hr ((x1, a_shares), (.ok r2)) h_r2 (sa_v (se_var 3) (sa_v (se_var 1) sa_nil)) rfl (.v (.v .nil)) rfl rfl))))) rfl (hO2 := (rfl : _ = [some (insO false Wd.room ["_shares", "_to_come"] [vp a_shares, vp (Lst.mk r4)])]))) ?_
      refine sb_cons (ss_fldN 0 0 G.c_Room.cl G.a_Room__cloth (se_fz (so_lstV ([] : (List (Int × (Int × Int)))) sa_nil)) rfl (hO2 := (rfl : _ = [some (insO false Wd.room ["_shares", "_to_come", "_cloth"] [vp a_shares, vp (Lst.mk r4), vp (Lst.mk ([] : (List (Int × (Int × Int)))))])]))) ?_
      have e_ := sinj hm
      subst e_
      exact sb_nilW (by repeat (first | exact Wk.nil | refine Wk.same ?_ | refine Wk.drop ?_))
abbrev s_Room_pieces : Stmt := inClass (top 10) 1
theorem sc_Room_pieces : FnScope ["self"] ["self"] (defScope s_Room_pieces) := ⟨rfl, rfl, rfl, by decide +kernel, rfl, by decide +kernel, by decide +kernel⟩
abbrev sp_Room_pieces [Wd] : Sp := spM (ι := (Rom) × (Int)) (fun i => m_Room_pieces i.1 = some i.2) (fun i => [.v (vp i.1)]) (fun i => []) (fun i => Ret.v (vp i.2) [])
theorem ok_Room_pieces [Wd] {P : Program} {w : World} {K : PySem.W.Frag} {mg : Str → Option Value} {base : Heap} {f : Addr} {fd : FuncData} (F : Fun K "pieces" "Room.pieces" s_Room_pieces f fd) (G : Gw K mg)  : FnOk P w K mg base (L2.CX P w) 1 f fd ["self"] sp_Room_pieces := by
  refine okM F sc_Room_pieces (fun _ => rfl) ?_
  rintro ⟨a_self, r⟩ hm cdv A outer s H E hr
  have nd := sc_Room_pieces.nd
  have tk := takes_of (X := cxOf (L2.CX P w) P w K mg base ["self"] "Room.pieces" (defScope s_Room_pieces) f cdv A outer s H E) (E := E) rfl rfl rfl rfl
  refine ⟨Out.rt (vp r) [], .rt rfl, ?_⟩
  replace hm : m_Room_pieces a_self = some r := hm
  unfold m_Room_pieces at hm
  have e_ := sinj hm
  subst e_
  exact sb_endr (ss_ret (se_lenLt G.b_len (sl_F (l := a_self.cloth) (se_fld 2 G.c_Room.cl (se_var 0) G.a_Room__cloth))))
abbrev s_Room__check_bolt : Stmt := inClass (top 10) 13
theorem sc_Room__check_bolt : FnScope ["self", "bolt"] ["self", "bolt"] (defScope s_Room__check_bolt) := ⟨rfl, rfl, rfl, by decide +kernel, rfl, by decide +kernel, by decide +kernel⟩
abbrev sp_Room__check_bolt [Wd] : Sp := spM (ι := (Rom × Int) × (Res Err (Unit))) (fun i => m_Room__check_bolt i.1.1 i.1.2 = some i.2) (fun i => [.v (vp i.1.1), .v (vp i.1.2)]) (fun i => []) (fun i => match i.2 with | .ok r_ => Ret.v (eqP .non) [] | .er e_ => Ret.x (erOf e_) [])
theorem ok_Room__check_bolt [Wd] {P : Program} {w : World} {K : PySem.W.Frag} {mg : Str → Option Value} {base : Heap} {f : Addr} {fd : FuncData} (F : Fun K "_check_bolt" "Room._check_bolt" s_Room__check_bolt f fd) (G : Gw K mg)  : FnOk P w K mg base (L2.CX P w) 1 f fd ["self", "bolt"] sp_Room__check_bolt := by
  refine okM F sc_Room__check_bolt (fun _ => rfl) ?_
  rintro ⟨⟨a_self, a_bolt⟩, r⟩ hm cdv A outer s H E hr
  have nd := sc_Room__check_bolt.nd
  have tk := takes_of (X := cxOf (L2.CX P w) P w K mg base ["self", "bolt"] "Room._check_bolt" (defScope s_Room__check_bolt) f cdv A outer s H E) (E := E) rfl rfl rfl rfl
  refine ⟨(match r with | .ok r_ => Out.nx (us 2) [] | .er e_ => Out.ex (erOf e_) (us 2) []), (by cases r <;> first | exact .nx | exact .ex rfl), ?_⟩
  replace hm : m_Room__check_bolt a_self a_bolt = some r := hm
  unfold m_Room__check_bolt at hm
  refine sb_ifL (st_not (st_chain op_le op_lt se_int (se_var 1) (se_lenLt G.b_len (sl_F (l := a_self.to_come) (se_fld 1 G.c_Room.cl (se_var 0) G.a_Room__to_come))))) (fun hc => ?_) (fun hc => ?_)
  · replace hm := ifp hm hc
    have e_ := sinj hm
    subst e_
    exact (sb_ende (ss_raise tk G.e_NoBolt (by repeat (first | exact Wk.nil | refine Wk.same ?_ | refine Wk.drop ?_))))
  · replace hm := ifb hm hc
    have e_ := sinj hm
    subst e_
    exact sb_nilW (by repeat (first | exact Wk.nil | refine Wk.same ?_ | refine Wk.drop ?_))
abbrev s_Room_coming : Stmt := inClass (top 10) 7
theorem sc_Room_coming : FnScope ["self", "bolt"] ["self", "bolt"] (defScope s_Room_coming) := ⟨rfl, rfl, rfl, by decide +kernel, rfl, by decide +kernel, by decide +kernel⟩
abbrev sp_Room_coming [Wd] : Sp := spM (ι := (Rom × Int) × (Res Err (Int))) (fun i => m_Room_coming i.1.1 i.1.2 = some i.2) (fun i => [.v (vp i.1.1), .v (vp i.1.2)]) (fun i => []) (fun i => match i.2 with | .ok r_ => Ret.v (vp r_) [] | .er e_ => Ret.x (erOf e_) [])
theorem ok_Room_coming [Wd] {P : Program} {w : World} {K : PySem.W.Frag} {mg : Str → Option Value} {base : Heap} {f : Addr} {fd : FuncData} (F : Fun K "coming" "Room.coming" s_Room_coming f fd) (G : Gw K mg) (d_Room__check_bolt : Mdef P w K mg base 1 Wd.room "_check_bolt" ["self", "bolt"] sp_Room__check_bolt) : FnOk P w K mg base (L2.CX P w) 2 f fd ["self", "bolt"] sp_Room_coming := by
  refine okM F sc_Room_coming (fun _ => rfl) ?_
  rintro ⟨⟨a_self, a_bolt⟩, r⟩ hm cdv A outer s H E hr
  have nd := sc_Room_coming.nd
  have tk := takes_of (X := cxOf (L2.CX P w) P w K mg base ["self", "bolt"] "Room.coming" (defScope s_Room_coming) f cdv A outer s H E) (E := E) rfl rfl rfl rfl
  refine ⟨(match r with | .ok r_ => Out.rt (vp r_) [] | .er e_ => Out.ex (erOf e_) (us 2) []), (by cases r <;> first | exact .rt rfl | exact .ex rfl), ?_⟩
  replace hm : m_Room_coming a_self a_bolt = some r := hm
  unfold m_Room_coming at hm
  rcases bndR hm with ⟨e_r1, h_r1, he_⟩ | ⟨r1, h_r1, hm⟩
  · subst he_
    exact (sb_ende (ssx_expr (sx_methD (js := []) (O3 := []) tk d_Room__check_bolt hr ((a_self, a_bolt), .er e_r1) h_r1 (se_var 0) (sa_v (se_var 1) sa_nil) rfl (.v (.v .nil)) rfl rfl) (by repeat (first | exact Wk.nil | refine Wk.same ?_ | refine Wk.drop ?_))))
  refine sb_cons (ss_expr (se_methD (js := []) (O3 := []) d_Room__check_bolt hr ((a_self, a_bolt), (.ok r1)) h_r1 (se_var 0) (sa_v (se_var 1) sa_nil) rfl (.v (.v .nil)) rfl rfl)) ?_
  obtain ⟨x2, h_x2, hm⟩ := bnd hm
  have e_ := sinj hm
  subst e_
  exact sb_endr (ss_ret (se_lenV G.b_len (se_ixF (l := a_self.to_come) (se_fld 1 G.c_Room.cl (se_var 0) G.a_Room__to_come) (se_var 1) h_x2)))
abbrev s_Room_walk : Stmt := inClass (top 10) 8
theorem gs_Room_walk : GScope ["self", "bolt", "along", "across"] ["self"] (defScope s_Room_walk) := ⟨rfl, rfl, rfl, by decide +kernel, rfl, by decide +kernel, by decide +kernel⟩
abbrev sp_Room_walk [Wd] : SpG := spG (ι := Rom × List (T3 Int Int Int)) (fun i => m_Room_walk i.1 = some i.2) (fun i => [.v (vp i.1)]) (fun _ => []) (fun i => i.2.map vp)
theorem ok_Room_walk [Wd] {P : Program} {w : World} {K : PySem.W.Frag} {mg : Str → Option Value} {base : Heap} {f : Addr} {fd : FuncData} (F : Fun K "walk" "Room.walk" s_Room_walk f fd) (G : Gw K mg) : GFn P w K mg base 1 f fd ["self"] sp_Room_walk := by
  obtain ⟨oc, od, kV, doc, pm, an, cdv, ct, osl, rfl, lk, hcd⟩ := F.ex
  have len : ∀ vs H Q E, sp_Room_walk vs H Q E → vs.length = 1 := fun vs H Q E ⟨i, _, F, B, Ev0, _⟩ => by
    have := Ev0.ck.len
    rw [List.length_map] at this; exact this
  refine gfn_of lk hcd gs_Room_walk len fun A outer s H vs Q E pn hr h => ?_
  have hv := len _ _ _ _ h
  obtain ⟨⟨room, out⟩, hi, F0, B, Ev0, k⟩ := h
  have nd := gs_Room_walk.nd
  have hi : (if room.cloth.l = [] then some [] else none) = some out := hi
  by_cases hz : room.cloth.l = []
  · rw [if_pos hz] at hi
    cases hi
    have body : SB (gcxOf P w K mg base ["self", "bolt", "along", "across"] "Room.walk" (defScope s_Room_walk) f cdv A outer s H E pn) (fun cls d _ H' => E cls d H') (defBody s_Room_walk) ([.v (vp room)] ++ List.replicate 3 .u) [] (.nx [.v (vp room), .u, .u, .u] []) := by
      refine sb_one (ss_for (vpa := vp) (xs := room.cloth.l) (body := fun (x : Int × (Int × Int)) (s : Unit) => (some (.nx ()) : Option (Ctl Empty Empty Unit))) (s0 := ()) (ctl := .nx ()) (by rw [hz]; rfl) (fun _ => [.v (vp room), .u, .u, .u]) (fun _ => []) (fun c_ => match c_ with | .nx _ => Out.nx [.v (vp room), .u, .u, .u] [] | .rt r => r.elim | .ex e => e.elim)
        (fun x _ => [.v (vp room), .v (vp x.1), .v (vp x.2.1), .v (vp x.2.2)]) rfl owns_gcx rfl (si_F (l := room.cloth) (se_fld 2 G.c_Room.cl (se_var 0) G.a_Room__cloth)) (fun _ => rfl) (fun r => r.elim) (fun e => e.elim) (by repeat (first | exact Wk.nil | refine Wk.same ?_ | refine Wk.drop ?_)) rfl
        (fun x s => sg_tup rfl (sgs_cons (sg_name 1 nd) (sgs_cons (sg_tup rfl (sgs_cons (sg_name 2 nd) (sgs_cons (sg_name 3 nd) sgs_nil))) sgs_nil))) ?_)
      intro x s c hx _
      rw [hz] at hx
      cases hx
    refine ⟨_, gss_pss body, frmOf F0 H B, F0, B, ?_, ?_⟩
    · have := Ev0.start (N := ["self", "bolt", "along", "across"])
      rw [hv] at this
      exact this
    · intro F' H' σ' A' l E'
      exact k F' H' [] A' E'.bare .nil
  · rw [if_neg hz] at hi; cases hi

abbrev s_law_pool : Stmt := top 13
theorem sc_law_pool : FnScope ["_law_script"] ["_law_script"] (defScope s_law_pool) := ⟨rfl, rfl, rfl, by decide +kernel, rfl, by decide +kernel, by decide +kernel⟩
abbrev sp_law_pool [Wd] : Sp := spM (ι := (Scr) × (Pool)) (fun i => m_law_pool i.1 = some i.2) (fun i => [.v (vp i.1)]) (fun i => []) (fun i => Ret.o (lstG true (poolP i.2)) [])
theorem ok_law_pool [Wd] {P : Program} {w : World} {K : PySem.W.Frag} {mg : Str → Option Value} {base : Heap} {f : Addr} {fd : FuncData} (F : Fun K "_law_pool" "_law_pool" s_law_pool f fd) (G : Gw K mg)  : FnOk P w K mg base (L2.CX P w) 1 f fd ["_law_script"] sp_law_pool := by
  refine okM F sc_law_pool (fun _ => rfl) ?_
  rintro ⟨a_script, r⟩ hm cdv A outer s H E hr
  have nd := sc_law_pool.nd
  have tk := takes_of (X := cxOf (L2.CX P w) P w K mg base ["_law_script"] "_law_pool" (defScope s_law_pool) f cdv A outer s H E) (E := E) rfl rfl rfl rfl
  refine ⟨Out.ro (lstG true (poolP r)) [], .ro' rfl, ?_⟩
  replace hm : m_law_pool a_script = some r := hm
  unfold m_law_pool at hm
  have e_ := sinj hm
  subst e_
  exact sb_endo (ss_retO (so_lst (ps := poolP (Pool.mk a_script.l (0 : Int) (0 : Int) (0 : Int))) (sa_v (se_fz (so_listS G.kk G.b_list (se_var 0))) (sa_v se_int (sa_v se_int (sa_v se_int sa_nil))))))
abbrev s_law_take : Stmt := top 14
theorem sc_law_take : FnScope ["_law_pool_here", "_law_size", "_law_cells", "_law_turn", "_law_digit", "_law_cell"] ["_law_pool_here", "_law_size"] (defScope s_law_take) := ⟨rfl, rfl, rfl, by decide +kernel, rfl, by decide +kernel, by decide +kernel⟩
abbrev sp_law_take [Wd] : Sp := spM (ι := (Pool × Int) × (Int × Pool)) (fun i => m_law_take i.1.1 i.1.2 = some i.2) (fun i => [.o 0, .v (vp i.1.2)]) (fun i => [some (lstA (poolP i.1.1))]) (fun i => Ret.v (vp i.2.1) [some (lstA (poolP i.2.2))])
theorem ok_law_take [Wd] {P : Program} {w : World} {K : PySem.W.Frag} {mg : Str → Option Value} {base : Heap} {f : Addr} {fd : FuncData} (F : Fun K "_law_take" "_law_take" s_law_take f fd) (G : Gw K mg)  : FnOk P w K mg base (L2.CX P w) 1 f fd ["_law_pool_here", "_law_size"] sp_law_take := by
  refine okM F sc_law_take (fun _ => rfl) ?_
  rintro ⟨⟨a_pool_here, a_size⟩, r⟩ hm cdv A outer s H E hr
  have nd := sc_law_take.nd
  have tk := takes_of (X := cxOf (L2.CX P w) P w K mg base ["_law_pool_here", "_law_size", "_law_cells", "_law_turn", "_law_digit", "_law_cell"] "_law_take" (defScope s_law_take) f cdv A outer s H E) (E := E) rfl rfl rfl rfl
  refine ⟨Out.rt (vp r.1) [some (lstA (poolP r.2))], .rt rfl, ?_⟩
  replace hm : m_law_take a_pool_here a_size = some r := hm
  unfold m_law_take at hm
  refine sb_cons (ss_set 2 nd (se_ixO (p := vp (Lst.mk a_pool_here.cells)) (m := 0) 0 se_int rfl rfl)) ?_
  refine sb_cons (ss_set 3 nd (se_ixO (p := vp a_pool_here.turn) (m := 0) 0 se_int rfl rfl)) ?_
  refine sb_cons (ss_setixP (m := 0) (O3 := [some (lstA (poolP ({ a_pool_here with turn := (a_pool_here.turn + (1 : Int)) } : Pool)))]) (k := 3) 0 (se_add (se_var 3) se_int) se_int rfl rfl rfl) ?_
  obtain ⟨b4, h_b4, hm⟩ := bnd hm
  obtain ⟨r5, h_r5, hm⟩ := bnd hm
  refine sb_cons (C1 := [.o 0, .v (vp a_size), .v (vp (Lst.mk a_pool_here.cells)), .v (vp a_pool_here.turn), .u, .u]) (O1 := [some (lstA (poolP r5))]) (ss_if (st_of (swT b4 [some (lstA (poolP ({ a_pool_here with turn := (a_pool_here.turn + (1 : Int)) } : Pool)))] (sw_and (st_eqI (se_ixO (p := vp ({ a_pool_here with turn := (a_pool_here.turn + (1 : Int)) } : Pool).big) (m := 0) 0 se_int rfl rfl) se_int) (fun z => by replace h_b4 := ifp h_b4 z; obtain ⟨b3, h_b3, h_b4⟩ := bnd h_b4; have e_ := sinj h_b4; subst e_; exact (swT b3 [some (lstA (poolP ({ a_pool_here with turn := (a_pool_here.turn + (1 : Int)) } : Pool)))] (sw_and (st_lt (se_ixO (p := vp ({ a_pool_here with turn := (a_pool_here.turn + (1 : Int)) } : Pool).at_) (m := 0) 0 se_int rfl rfl) (se_lenLt G.b_len (sl_F (l := (Lst.mk a_pool_here.cells)) (se_var 2)))) (fun z => by replace h_b3 := ifp h_b3 z; obtain ⟨x1, h_x1, h_b3⟩ := bnd h_b3; obtain ⟨t2, h_t2, h_b3⟩ := bnd h_b3; have e_ := sinj h_b3; subst e_; exact (sw_and1 (st_ge (se_ixF (l := (Lst.mk a_pool_here.cells)) (se_var 2) (se_ixO (p := vp ({ a_pool_here with turn := (a_pool_here.turn + (1 : Int)) } : Pool).at_) (m := 0) 0 se_int rfl rfl) h_x1) (se_pow se_int se_int h_t2)))) (fun z => by replace h_b3 := ifb h_b3 z; have e_ := sinj h_b3; subst e_; exact ⟨rfl, rfl⟩)))) (fun z => by replace h_b4 := ifb h_b4 z; have e_ := sinj h_b4; subst e_; exact ⟨rfl, rfl⟩)))) (fun hc => ?_) (fun hc => ?_)) ?_
  · replace h_r5 := ifp h_r5 hc
    obtain ⟨x6, h_x6, h_r5⟩ := bnd h_r5
    have e_ := sinj h_r5
    subst e_
    refine sb_wk0 (C1 := [.o 0, .v (vp a_size), .v (vp (Lst.mk a_pool_here.cells)), .v (vp a_pool_here.turn), .u, .u]) (O1 := [some (lstA (poolP ({ ({ ({ a_pool_here with turn := (a_pool_here.turn + (1 : Int)) } : Pool) with big := x6 } : Pool) with at_ := (({ ({ a_pool_here with turn := (a_pool_here.turn + (1 : Int)) } : Pool) with big := x6 } : Pool).at_ + (1 : Int)) } : Pool)))]) ?_ (by repeat (first | exact Wk.nil | refine Wk.same ?_ | refine Wk.drop ?_))
    refine sb_cons (ss_setixP (m := 0) (O3 := [some (lstA (poolP ({ ({ a_pool_here with turn := (a_pool_here.turn + (1 : Int)) } : Pool) with big := x6 } : Pool)))]) (k := 2) 0 (se_ixF (l := (Lst.mk a_pool_here.cells)) (se_var 2) (se_ixO (p := vp ({ a_pool_here with turn := (a_pool_here.turn + (1 : Int)) } : Pool).at_) (m := 0) 0 se_int rfl rfl) h_x6) se_int rfl rfl rfl) ?_
    refine sb_cons (ss_setixP (m := 0) (O3 := [some (lstA (poolP ({ ({ ({ a_pool_here with turn := (a_pool_here.turn + (1 : Int)) } : Pool) with big := x6 } : Pool) with at_ := (({ ({ a_pool_here with turn := (a_pool_here.turn + (1 : Int)) } : Pool) with big := x6 } : Pool).at_ + (1 : Int)) } : Pool)))]) (k := 1) 0 (se_add (se_ixO (p := vp ({ ({ a_pool_here with turn := (a_pool_here.turn + (1 : Int)) } : Pool) with big := x6 } : Pool).at_) (m := 0) 0 se_int rfl rfl) se_int) se_int rfl rfl rfl) ?_
    exact sb_nil
  · replace h_r5 := ifb h_r5 hc
    have e_ := sinj h_r5
    subst e_
    refine sb_wk0 (C1 := [.o 0, .v (vp a_size), .v (vp (Lst.mk a_pool_here.cells)), .v (vp a_pool_here.turn), .u, .u]) (O1 := [some (lstA (poolP ({ a_pool_here with turn := (a_pool_here.turn + (1 : Int)) } : Pool)))]) ?_ (by repeat (first | exact Wk.nil | refine Wk.same ?_ | refine Wk.drop ?_))
    exact sb_nil
  refine sb_ifL (st_gt (se_ixO (p := vp r5.big) (m := 0) 0 se_int rfl rfl) se_int) (fun hc => ?_) (fun hc => ?_)
  · replace hm := ifp hm hc
    obtain ⟨t7, h_t7, hm⟩ := bnd hm
    refine sb_cons (ss_set 4 nd (se_mod (se_int1 G.b_int (se_ixO (p := vp r5.big) (m := 0) 0 se_int rfl rfl)) (se_var 1) h_t7)) ?_
    obtain ⟨t8, h_t8, hm⟩ := bnd hm
    refine sb_cons (ss_setixP (m := 0) (O3 := [some (lstA (poolP ({ r5 with big := t8 } : Pool)))]) (k := 2) 0 (se_div (se_int1 G.b_int (se_ixO (p := vp r5.big) (m := 0) 0 se_int rfl rfl)) (se_var 1) h_t8) se_int rfl rfl rfl) ?_
    have e_ := sinj hm
    subst e_
    exact sb_endr (ss_ret (se_var 4))
  · replace hm := ifb hm hc
    refine sb_ifL (st_eqI (se_lenLt G.b_len (sl_F (l := (Lst.mk a_pool_here.cells)) (se_var 2))) se_int) (fun hc => ?_) (fun hc => ?_)
    · replace hm := ifp hm hc
      obtain ⟨t9, h_t9, hm⟩ := bnd hm
      have e_ := sinj hm
      subst e_
      exact sb_endr (ss_ret (se_mod (se_int1 G.b_int (se_var 3)) (se_var 1) h_t9))
    · replace hm := ifb hm hc
      obtain ⟨t10, h_t10, hm⟩ := bnd hm
      obtain ⟨x11, h_x11, hm⟩ := bnd hm
      refine sb_cons (ss_set 5 nd (se_ixF (l := (Lst.mk a_pool_here.cells)) (se_var 2) (se_mod (se_int1 G.b_int (se_ixO (p := vp r5.at_) (m := 0) 0 se_int rfl rfl)) (se_lenLt G.b_len (sl_F (l := (Lst.mk a_pool_here.cells)) (se_var 2))) h_t10) h_x11)) ?_
      refine sb_cons (ss_setixP (m := 0) (O3 := [some (lstA (poolP ({ r5 with at_ := (r5.at_ + (1 : Int)) } : Pool)))]) (k := 1) 0 (se_add (se_ixO (p := vp r5.at_) (m := 0) 0 se_int rfl rfl) se_int) se_int rfl rfl rfl) ?_
      obtain ⟨t12, h_t12, hm⟩ := bnd hm
      obtain ⟨t13, h_t13, hm⟩ := bnd hm
      obtain ⟨t14, h_t14, hm⟩ := bnd hm
      obtain ⟨t15, h_t15, hm⟩ := bnd hm
      obtain ⟨t16, h_t16, hm⟩ := bnd hm
      have e_ := sinj hm
      subst e_
      exact sb_endr (ss_ret (se_mod (se_mod (se_int1 G.b_int (se_add (se_mul (se_mul (se_add (se_var 5) se_int) (se_add (se_var 3) se_int) h_t12) se_int h_t13) (se_mul (se_var 3) (se_var 3) h_t14))) se_int h_t15) (se_var 1) h_t16))
abbrev s_law_whole : Stmt := top 15
theorem sc_law_whole : FnScope ["_law_x"] ["_law_x"] (defScope s_law_whole) := ⟨rfl, rfl, rfl, by decide +kernel, rfl, by decide +kernel, by decide +kernel⟩
abbrev sp_law_whole [Wd] : Sp := spM (ι := (Int) × (Bool)) (fun i => m_law_whole i.1 = some i.2) (fun i => [.v (vp i.1)]) (fun i => []) (fun i => Ret.v (vp i.2) [])
theorem ok_law_whole [Wd] {P : Program} {w : World} {K : PySem.W.Frag} {mg : Str → Option Value} {base : Heap} {f : Addr} {fd : FuncData} (F : Fun K "_law_whole" "_law_whole" s_law_whole f fd) (G : Gw K mg)  : FnOk P w K mg base (L2.CX P w) 1 f fd ["_law_x"] sp_law_whole := by
  refine okM F sc_law_whole (fun _ => rfl) ?_
  rintro ⟨a_x, r⟩ hm cdv A outer s H E hr
  have nd := sc_law_whole.nd
  have tk := takes_of (X := cxOf (L2.CX P w) P w K mg base ["_law_x"] "_law_whole" (defScope s_law_whole) f cdv A outer s H E) (E := E) rfl rfl rfl rfl
  refine ⟨Out.rt (vp r) [], .rt rfl, ?_⟩
  replace hm : m_law_whole a_x = some r := hm
  unfold m_law_whole at hm
  have e_ := sinj hm
  subst e_
  exact sb_endr (ss_ret (se_andT (se_isT (T := "int") G.b_isinstance G.b_int (se_var 0) kit_same) (se_one (se_not (se_isT (T := "bool") G.b_isinstance G.b_bool (se_var 0) G.t_int_bool)))))
abbrev s_law_made : Stmt := top 16
theorem sc_law_made : FnScope ["_law_many", "_law_bolts"] ["_law_many", "_law_bolts"] (defScope s_law_made) := ⟨rfl, rfl, rfl, by decide +kernel, rfl, by decide +kernel, by decide +kernel⟩
abbrev sp_law_made [Wd] : Sp := spM (ι := (Int × (Lst (Lst ((Option Int) × (Option Int))))) × ((Str × (Option Rom)))) (fun i => m_law_made i.1.1 i.1.2 = some i.2) (fun i => [.v (vp i.1.1), .v (vp i.1.2)]) (fun i => []) (fun i => Ret.v (vp i.2) [])
theorem ok_law_made [Wd] {P : Program} {w : World} {K : PySem.W.Frag} {mg : Str → Option Value} {base : Heap} {f : Addr} {fd : FuncData} (F : Fun K "_law_made" "_law_made" s_law_made f fd) (G : Gw K mg) (c_Room_init : Cdef P w K mg base 2 Wd.room "Room" ["self", "shares", "bolts"] sp_Room_init) : FnOk P w K mg base (L2.CX P w) 4 f fd ["_law_many", "_law_bolts"] sp_law_made := by
  refine okM F sc_law_made (fun _ => rfl) ?_
  rintro ⟨⟨a_many, a_bolts⟩, r⟩ hm cdv A outer s H E hr
  have nd := sc_law_made.nd
  have tk := takes_of (X := cxOf (L2.CX P w) P w K mg base ["_law_many", "_law_bolts"] "_law_made" (defScope s_law_made) f cdv A outer s H E) (E := E) rfl rfl rfl rfl
  refine ⟨Out.rt (vp r) [], .rt rfl, ?_⟩
  replace hm : m_law_made a_many a_bolts = some r := hm
  unfold m_law_made at hm
  refine sb_goF hm (fun (c_ : Ctl Empty ((Str × (Option Rom))) Empty) => match c_ with | .nx s1 => Out.nx [.v (vp a_many), .v (vp a_bolts)] [] | .rt r_ => Out.rt (vp r_) [] | .ex e_ => e_.elim) (fun (s1 : Empty) => [.v (vp a_many), .v (vp a_bolts)]) (fun (s1 : Empty) => []) (fun c_ hq_ => ?_) (fun _ => rfl) rfl rfl (fun s1 h_s1 hm => ?_)
  · refine ss_tryM (out := (fun (c_ : Ctl Empty ((Str × (Option Rom))) Empty) => match c_ with | .nx s1 => Out.nx [.v (vp a_many), .v (vp a_bolts)] [] | .rt r_ => Out.rt (vp r_) [] | .ex e_ => e_.elim)) (outB := (fun (c_ : Ctl Err ((Str × (Option Rom))) Empty) => match c_ with | .nx s1 => Out.nx [.v (vp a_many), .v (vp a_bolts)] [] | .rt r_ => Out.rt (vp r_) [] | .ex e_ => Out.ex (erOf e_) [.v (vp a_many), .v (vp a_bolts)] [])) tk hq_ (.cons (names_own G.e_BadShares.g) (.cons (names_own G.e_BadBolt.g) .nil)) (fun _ => ⟨rfl, rfl⟩) (fun _ => ⟨rfl, rfl⟩) (fun _ => rfl) ?_ ?_
    · intro cb_ hb_ W_ pn_ xe_ tk_ hp_
      rcases bndX hb_ with ⟨e_r3, h_r3, he_⟩ | ⟨r3, h_r3, hb_⟩
      · subst he_
        exact (sb_ende (ssx_ret (sx_tup (sax_tl se_str (sax_hd (sx_make (js := []) (O2 := []) tk_ c_Room_init hr ((a_many, a_bolts), .er e_r3) h_r3 (sa_v (se_var 0) (sa_v (se_var 1) sa_nil)) rfl (.o rfl rfl (.v (.v .nil))) rfl rfl rfl)))) (by repeat (first | exact Wk.nil | refine Wk.same ?_ | refine Wk.drop ?_))))
      have e_ := sinj hb_
      subst e_
      exact sb_endr (ss_ret (se_tup2 se_str (se_sm (se_frzG (p := vp r3) (so_make (js := []) (O2 := []) c_Room_init hr ((a_many, a_bolts), (.ok r3)) h_r3 (sa_v (se_var 0) (sa_v (se_var 1) sa_nil)) rfl (.o rfl rfl (.v (.v .nil))) rfl rfl) fz_ins))))
    · intro e_ c_ hh_
      cases hpr_ : prs e_ with
      | false => rw [hpr_] at hh_; cases hh_
      | true =>
      replace hh_ := ifp hh_ hpr_
      refine hm_if G.y_BadShares hpr_ hh_ (names_own G.e_BadShares.g) (fun hh_ => ?_) (fun hh_ => ?_) (.cons (names_own G.e_BadBolt.g) .nil)
      · intro a_ oe_ cls_ d_ pn_
        have e_ := sinj hh_
        subst e_
        exact sb_endr (ss_ret (se_tup2 se_str (se_none se_non)))
      refine hm_if G.y_BadBolt hpr_ hh_ (names_own G.e_BadBolt.g) (fun hh_ => ?_) (fun hh_ => ?_) .nil
      · intro a_ oe_ cls_ d_ pn_
        have e_ := sinj hh_
        subst e_
        exact sb_endr (ss_ret (se_tup2 se_str (se_none se_non)))
      cases hh_
  exact s1.elim
abbrev s_law_no_bolt : Stmt := top 17
theorem sc_law_no_bolt : FnScope ["_law_room", "_law_bolt"] ["_law_room", "_law_bolt"] (defScope s_law_no_bolt) := ⟨rfl, rfl, rfl, by decide +kernel, rfl, by decide +kernel, by decide +kernel⟩
abbrev sp_law_no_bolt [Wd] : Sp := spM (ι := (Rom × Int) × (Bool)) (fun i => m_law_no_bolt i.1.1 i.1.2 = some i.2) (fun i => [.v (vp i.1.1), .v (vp i.1.2)]) (fun i => []) (fun i => Ret.v (vp i.2) [])
theorem ok_law_no_bolt [Wd] {P : Program} {w : World} {K : PySem.W.Frag} {mg : Str → Option Value} {base : Heap} {f : Addr} {fd : FuncData} (F : Fun K "_law_no_bolt" "_law_no_bolt" s_law_no_bolt f fd) (G : Gw K mg) (d_Room_coming : Mdef P w K mg base 2 Wd.room "coming" ["self", "bolt"] sp_Room_coming) : FnOk P w K mg base (L2.CX P w) 3 f fd ["_law_room", "_law_bolt"] sp_law_no_bolt := by
  refine okM F sc_law_no_bolt (fun _ => rfl) ?_
  rintro ⟨⟨a_room, a_bolt⟩, r⟩ hm cdv A outer s H E hr
  have nd := sc_law_no_bolt.nd
  have tk := takes_of (X := cxOf (L2.CX P w) P w K mg base ["_law_room", "_law_bolt"] "_law_no_bolt" (defScope s_law_no_bolt) f cdv A outer s H E) (E := E) rfl rfl rfl rfl
  refine ⟨Out.rt (vp r) [], .rt rfl, ?_⟩
  replace hm : m_law_no_bolt a_room a_bolt = some r := hm
  unfold m_law_no_bolt at hm
  refine sb_goF hm (fun (c_ : Ctl Empty (Bool) Empty) => match c_ with | .nx s1 => Out.nx [.v (vp a_room), .v (vp a_bolt)] [] | .rt r_ => Out.rt (vp r_) [] | .ex e_ => e_.elim) (fun (s1 : Empty) => [.v (vp a_room), .v (vp a_bolt)]) (fun (s1 : Empty) => []) (fun c_ hq_ => ?_) (fun _ => rfl) rfl rfl (fun s1 h_s1 hm => ?_)
  · refine ss_tryM (out := (fun (c_ : Ctl Empty (Bool) Empty) => match c_ with | .nx s1 => Out.nx [.v (vp a_room), .v (vp a_bolt)] [] | .rt r_ => Out.rt (vp r_) [] | .ex e_ => e_.elim)) (outB := (fun (c_ : Ctl Err (Bool) Empty) => match c_ with | .nx s1 => Out.nx [.v (vp a_room), .v (vp a_bolt)] [] | .rt r_ => Out.rt (vp r_) [] | .ex e_ => Out.ex (erOf e_) [.v (vp a_room), .v (vp a_bolt)] [])) tk hq_ (.cons (names_own G.e_NoBolt.g) .nil) (fun _ => ⟨rfl, rfl⟩) (fun _ => ⟨rfl, rfl⟩) (fun _ => rfl) ?_ ?_
    · intro cb_ hb_ W_ pn_ xe_ tk_ hp_
      rcases bndX hb_ with ⟨e_r3, h_r3, he_⟩ | ⟨r3, h_r3, hb_⟩
      · subst he_
        exact (sb_ende (ssx_ret (sx_cmp1 op_eq (sx_lst (sax_hd (sx_methD (js := []) (O3 := []) tk_ d_Room_coming hr ((a_room, a_bolt), .er e_r3) h_r3 (se_var 0) (sa_v (se_var 1) sa_nil) rfl (.v (.v .nil)) rfl rfl)))) (by repeat (first | exact Wk.nil | refine Wk.same ?_ | refine Wk.drop ?_))))
      have e_ := sinj hb_
      subst e_
      exact sb_endr (ss_ret (se_eqD hr (se_fz (so_lstV ([r3] : (List Int)) (sa_v (se_methD (js := []) (O3 := []) d_Room_coming hr ((a_room, a_bolt), (.ok r3)) h_r3 (se_var 0) (sa_v (se_var 1) sa_nil) rfl (.v (.v .nil)) rfl rfl) sa_nil))) (se_fz (so_lstV ([] : (List Int)) sa_nil))))
    · intro e_ c_ hh_
      cases hpr_ : prs e_ with
      | false => rw [hpr_] at hh_; cases hh_
      | true =>
      replace hh_ := ifp hh_ hpr_
      refine hm_if G.y_NoBolt hpr_ hh_ (names_own G.e_NoBolt.g) (fun hh_ => ?_) (fun hh_ => ?_) .nil
      · intro a_ oe_ cls_ d_ pn_
        have e_ := sinj hh_
        subst e_
        exact sb_endr (ss_ret se_bl)
      cases hh_
  exact s1.elim
abbrev s_law : Stmt := top 18
theorem sc_law : FnScope ["_law_script", "_law_pool_here", "_law_many", "_law_wide", "_law_bolts", "_law_b", "_law_bolt", "_law_w", "_law_shares", "_law_at", "_law_odd", "_law_kind", "_law_room", "_law_fine", "_law_washing", "_law_share"] ["_law_script"] (defScope s_law) := ⟨rfl, rfl, rfl, by decide +kernel, rfl, by decide +kernel, by decide +kernel⟩
abbrev sp_law [Wd] : Sp := spM (ι := (Scr) × (Bool)) (fun i => m_law i.1 = some i.2) (fun i => [.v (vp i.1)]) (fun i => []) (fun i => Ret.v (vp i.2) [])
theorem ok_law [Wd] {P : Program} {w : World} {K : PySem.W.Frag} {mg : Str → Option Value} {base : Heap} {f : Addr} {fd : FuncData} (F : Fun K "law" "law" s_law f fd) (G : Gw K mg) (d_law_pool : Def P w K mg base 1 "_law_pool" ["_law_script"] sp_law_pool) (d_law_take : Def P w K mg base 1 "_law_take" ["_law_pool_here", "_law_size"] sp_law_take) (d_law_made : Def P w K mg base 4 "_law_made" ["_law_many", "_law_bolts"] sp_law_made) (p_Room_pieces : Pdef P w K mg base 1 Wd.room "pieces" ["self"] sp_Room_pieces) (d_law_whole : Def P w K mg base 1 "_law_whole" ["_law_x"] sp_law_whole) (d_Room_coming : Mdef P w K mg base 2 Wd.room "coming" ["self", "bolt"] sp_Room_coming) (d_law_no_bolt : Def P w K mg base 3 "_law_no_bolt" ["_law_room", "_law_bolt"] sp_law_no_bolt) (g_Room_walk : Gmeth P w K mg base 1 Wd.room "walk" ["self"] sp_Room_walk) : FnOk P w K mg base (L2.CX P w) 5 f fd ["_law_script"] sp_law := by
  refine okM F sc_law (fun _ => rfl) ?_
  rintro ⟨a_script, r⟩ hm cdv A outer s H E hr
  have nd := sc_law.nd
  have tk := takes_of (X := cxOf (L2.CX P w) P w K mg base ["_law_script", "_law_pool_here", "_law_many", "_law_wide", "_law_bolts", "_law_b", "_law_bolt", "_law_w", "_law_shares", "_law_at", "_law_odd", "_law_kind", "_law_room", "_law_fine", "_law_washing", "_law_share"] "law" (defScope s_law) f cdv A outer s H E) (E := E) rfl rfl rfl rfl
  refine ⟨Out.rt (vp r) [], .rt rfl, ?_⟩
  replace hm : m_law a_script = some r := hm
  unfold m_law at hm
  obtain ⟨r1, h_r1, hm⟩ := bnd hm
  refine sb_cons (ss_setO 1 nd (so_callD (js := []) (O2 := []) d_law_pool hr (a_script, r1) h_r1 (sa_v (se_var 0) sa_nil) rfl (.v .nil) rfl rfl)) ?_
  obtain ⟨r2, h_r2, hm⟩ := bnd hm
  refine sb_cons (ss_set 2 nd (se_add se_int (se_callD (js := [0]) (O2 := [some (lstO (poolP r2.2))]) d_law_take hr ((r1, (4 : Int)), r2) h_r2 (sa_o 1 (sa_v se_int sa_nil)) rfl (.o rfl rfl (.v .nil)) rfl rfl))) ?_
  obtain ⟨r3, h_r3, hm⟩ := bnd hm
  obtain ⟨r4, h_r4, hm⟩ := bnd hm
  refine sb_cons (C1 := [.v (vp a_script), .o 0, .v (vp r4.1), .u, .u, .u, .u, .u, .u, .u, .u, .u, .u, .u, .u, .u]) (O1 := [some (lstO (poolP r4.2))]) (ss_if (st_eqI (se_callD (js := [0]) (O2 := [some (lstO (poolP r3.2))]) d_law_take hr ((r2.2, (6 : Int)), r3) h_r3 (sa_o 1 (sa_v se_int sa_nil)) rfl (.o rfl rfl (.v .nil)) rfl rfl) se_int) (fun hc => ?_) (fun hc => ?_)) ?_
  · replace h_r4 := ifp h_r4 hc
    obtain ⟨r5, h_r5, h_r4⟩ := bnd h_r4
    obtain ⟨x6, h_x6, h_r4⟩ := bnd h_r4
    have e_ := sinj h_r4
    subst e_
    refine sb_wk0 (C1 := [.v (vp a_script), .o 0, .v (vp x6), .u, .u, .u, .u, .u, .u, .u, .u, .u, .u, .u, .u, .u]) (O1 := [some (lstO (poolP r5.2))]) ?_ (by repeat (first | exact Wk.nil | refine Wk.same ?_ | refine Wk.drop ?_))
    refine sb_cons (ss_set 2 nd (se_ixF (l := (Lst.mk ([(-(1 : Int)), (0 : Int), (5 : Int), (6 : Int)] : (List Int)))) (se_fz (so_lstV ([(-(1 : Int)), (0 : Int), (5 : Int), (6 : Int)] : (List Int)) (sa_v (se_neg se_int) (sa_v se_int (sa_v se_int (sa_v se_int sa_nil)))))) (se_callD (js := [0]) (O2 := [some (lstO (poolP r5.2))]) d_law_take hr ((r3.2, (4 : Int)), r5) h_r5 (sa_o 1 (sa_v se_int sa_nil)) rfl (.o rfl rfl (.v .nil)) rfl rfl) h_x6)) ?_
    exact sb_nil
  · replace h_r4 := ifb h_r4 hc
    have e_ := sinj h_r4
    subst e_
    refine sb_wk0 (C1 := [.v (vp a_script), .o 0, .v (vp ((1 : Int) + r2.1)), .u, .u, .u, .u, .u, .u, .u, .u, .u, .u, .u, .u, .u]) (O1 := [some (lstO (poolP r3.2))]) ?_ (by repeat (first | exact Wk.nil | refine Wk.same ?_ | refine Wk.drop ?_))
    exact sb_nil
  obtain ⟨r7, h_r7, hm⟩ := bnd hm
  refine sb_cons (ss_set 3 nd (se_callD (js := [0]) (O2 := [some (lstO (poolP r7.2))]) d_law_take hr ((r4.2, (3 : Int)), r7) h_r7 (sa_o 1 (sa_v se_int sa_nil)) rfl (.o rfl rfl (.v .nil)) rfl rfl)) ?_
  refine sb_cons (ss_setO 4 nd (so_lstV ([] : (List (Lst ((Option Int) × (Option Int))))) sa_nil)) ?_
  obtain ⟨c10, h_c10, hm⟩ := bnd hm
  obtain ⟨l11, h_l11, hm⟩ := bnd hm
  obtain ⟨r14, h_r14, hm⟩ := bnd hm
  refine sb_cons (ss_forN (vpa := vp) h_r14 (fun (s13 : (Pool × (List (Lst ((Option Int) × (Option Int)))))) => [.v (vp a_script), .o 0, .v (vp r4.1), .v (vp r7.1), .o 1, .u, .u, .u, .u, .u, .u, .u, .u, .u, .u, .u]) (fun (s13 : (Pool × (List (Lst ((Option Int) × (Option Int)))))) => [some (lstO (poolP s13.1)), some (lstO (List.map vp s13.2))]) (fun (x12 : Int) (s13 : (Pool × (List (Lst ((Option Int) × (Option Int)))))) => [.v (vp a_script), .o 0, .v (vp r4.1), .v (vp r7.1), .o 1, .v (vp x12), .u, .u, .u, .u, .u, .u, .u, .u, .u, .u]) (si_rng1 G.b_range (seT (vp c10.1) [some (lstO (poolP c10.2)), some (lstO (List.map vp ([] : (List (Lst ((Option Int) × (Option Int)))))))] (se_if (st_eqI (se_var 3) se_int) (fun z => by replace h_c10 := ifp h_c10 z; obtain ⟨r8, h_r8, h_c10⟩ := bnd h_c10; have e_ := sinj h_c10; subst e_; exact (se_callD (js := [0]) (O2 := [some (lstO (poolP r8.2)), some (lstO (List.map vp ([] : (List (Lst ((Option Int) × (Option Int)))))))]) d_law_take hr ((r7.2, (7 : Int)), r8) h_r8 (sa_o 1 (sa_v se_int sa_nil)) rfl (.o rfl rfl (.v .nil)) rfl rfl)) (fun z => by replace h_c10 := ifb h_c10 z; obtain ⟨r9, h_r9, h_c10⟩ := bnd h_c10; have e_ := sinj h_c10; subst e_; exact (se_add se_int (se_callD (js := [0]) (O2 := [some (lstO (poolP r9.2)), some (lstO (List.map vp ([] : (List (Lst ((Option Int) × (Option Int)))))))]) d_law_take hr ((r7.2, (4 : Int)), r9) h_r9 (sa_o 1 (sa_v se_int sa_nil)) rfl (.o rfl rfl (.v .nil)) rfl rfl))))) h_l11) rfl ?_ rfl (fun x12 s13 => (sg_name 5 nd)) ?_) ?_
  · repeat (first | exact Wk.nil | refine Wk.same ?_ | refine Wk.drop ?_)
  · rintro x12 s13 s_2 hin_ hf
    obtain ⟨c17, h_c17, hf⟩ := bnd hf
    obtain ⟨l18, h_l18, hf⟩ := bnd hf
    obtain ⟨r21, h_r21, hf⟩ := bnd hf
    obtain ⟨l38, h_l38, hf⟩ := bnd hf
    have e_ := sinj hf
    subst e_
    refine sb_wk0 (C1 := [.v (vp a_script), .o 0, .v (vp r4.1), .v (vp r7.1), .o 1, .v (vp x12), .v (vp (Lst.mk r21.2)), .u, .u, .u, .u, .u, .u, .u, .u, .u]) (O1 := [some (lstO (poolP r21.1)), some (lstO (List.map vp l38)), none]) ?_ (by repeat (first | exact Wk.nil | refine Wk.same ?_ | refine Wk.drop ?_))
    refine sb_cons (ss_setO 6 nd (so_lstV ([] : (List ((Option Int) × (Option Int)))) sa_nil)) ?_
    refine sb_cons (ss_forN (vpa := vp) h_r21 (fun (s20 : (Pool × (List ((Option Int) × (Option Int))))) => [.v (vp a_script), .o 0, .v (vp r4.1), .v (vp r7.1), .o 1, .v (vp x12), .o 2, .u, .u, .u, .u, .u, .u, .u, .u, .u]) (fun (s20 : (Pool × (List ((Option Int) × (Option Int))))) => [some (lstO (poolP s20.1)), some (lstO (List.map vp s13.2)), some (lstO (List.map vp s20.2))]) (fun (x19 : Int) (s20 : (Pool × (List ((Option Int) × (Option Int))))) => [.v (vp a_script), .o 0, .v (vp r4.1), .v (vp r7.1), .o 1, .v (vp x12), .o 2, .v (vp x19), .u, .u, .u, .u, .u, .u, .u, .u]) (si_rng1 G.b_range (seT (vp c17.1) [some (lstO (poolP c17.2)), some (lstO (List.map vp s13.2)), some (lstO (List.map vp ([] : (List ((Option Int) × (Option Int))))))] (se_if (st_eqI (se_var 3) se_int) (fun z => by replace h_c17 := ifp h_c17 z; obtain ⟨r15, h_r15, h_c17⟩ := bnd h_c17; have e_ := sinj h_c17; subst e_; exact (se_callD (js := [0]) (O2 := [some (lstO (poolP r15.2)), some (lstO (List.map vp s13.2)), some (lstO (List.map vp ([] : (List ((Option Int) × (Option Int))))))]) d_law_take hr ((s13.1, (7 : Int)), r15) h_r15 (sa_o 1 (sa_v se_int sa_nil)) rfl (.o rfl rfl (.v .nil)) rfl rfl)) (fun z => by replace h_c17 := ifb h_c17 z; obtain ⟨r16, h_r16, h_c17⟩ := bnd h_c17; have e_ := sinj h_c17; subst e_; exact (se_callD (js := [0]) (O2 := [some (lstO (poolP r16.2)), some (lstO (List.map vp s13.2)), some (lstO (List.map vp ([] : (List ((Option Int) × (Option Int))))))]) d_law_take hr ((s13.1, (5 : Int)), r16) h_r16 (sa_o 1 (sa_v se_int sa_nil)) rfl (.o rfl rfl (.v .nil)) rfl rfl)))) h_l18) rfl ?_ rfl (fun x19 s20 => (sg_name 7 nd)) ?_) ?_
    · repeat (first | exact Wk.nil | refine Wk.same ?_ | refine Wk.drop ?_)
    · rintro x19 s20 s_2 hin_ hf
      obtain ⟨l22, h_l22, hf⟩ := bnd hf
      obtain ⟨r25, h_r25, hf⟩ := bnd hf
      obtain ⟨x35, h_x35, hf⟩ := bnd hf
      obtain ⟨x36, h_x36, hf⟩ := bnd hf
      obtain ⟨l37, h_l37, hf⟩ := bnd hf
      have e_ := sinj hf
      subst e_
      refine sb_wk0 (C1 := [.v (vp a_script), .o 0, .v (vp r4.1), .v (vp r7.1), .o 1, .v (vp x12), .o 2, .v (vp x19), .v (vp (Lst.mk r25.2)), .u, .u, .u, .u, .u, .u, .u]) (O1 := [some (lstO (poolP r25.1)), some (lstO (List.map vp s13.2)), some (lstO (List.map vp l37)), none]) ?_ (by repeat (first | exact Wk.nil | refine Wk.same ?_ | refine Wk.drop ?_))
      refine sb_cons (ss_setO 8 nd (so_lstV ([(some (0 : Int)), (some (0 : Int))] : (List (Option Int))) (sa_v (se_sm se_int) (sa_v (se_sm se_int) sa_nil)))) ?_
      refine sb_cons (ss_forN (vpa := vp) h_r25 (fun (s24 : (Pool × (List (Option Int)))) => [.v (vp a_script), .o 0, .v (vp r4.1), .v (vp r7.1), .o 1, .v (vp x12), .o 2, .v (vp x19), .o 3, .u, .u, .u, .u, .u, .u, .u]) (fun (s24 : (Pool × (List (Option Int)))) => [some (lstO (poolP s24.1)), some (lstO (List.map vp s13.2)), some (lstO (List.map vp s20.2)), some (lstO (List.map vp s24.2))]) (fun (x23 : Int) (s24 : (Pool × (List (Option Int)))) => [.v (vp a_script), .o 0, .v (vp r4.1), .v (vp r7.1), .o 1, .v (vp x12), .o 2, .v (vp x19), .o 3, .v (vp x23), .u, .u, .u, .u, .u, .u]) (si_rng1 G.b_range se_int h_l22) rfl ?_ rfl (fun x23 s24 => (sg_name 9 nd)) ?_) ?_
      · repeat (first | exact Wk.nil | refine Wk.same ?_ | refine Wk.drop ?_)
      · rintro x23 s24 s_2 hin_ hf
        obtain ⟨r26, h_r26, hf⟩ := bnd hf
        obtain ⟨l27, h_l27, hf⟩ := bnd hf
        obtain ⟨r28, h_r28, hf⟩ := bnd hf
        obtain ⟨r29, h_r29, hf⟩ := bnd hf
        obtain ⟨r33, h_r33, hf⟩ := bnd hf
        have e_ := sinj hf
        subst e_
        refine sb_wk0 (C1 := [.v (vp a_script), .o 0, .v (vp r4.1), .v (vp r7.1), .o 1, .v (vp x12), .o 2, .v (vp x19), .o 3, .v (vp x23), .v (vp r28.1), .u, .u, .u, .u, .u]) (O1 := [some (lstO (poolP r29.1)), some (lstO (List.map vp s13.2)), some (lstO (List.map vp s20.2)), some (lstO (List.map vp r33))]) ?_ (by repeat (first | exact Wk.nil | refine Wk.same ?_ | refine Wk.drop ?_))
        refine sb_cons (ss_setixT (fv := vp) (m := 3) (O3 := [some (lstO (poolP r26.2)), some (lstO (List.map vp s13.2)), some (lstO (List.map vp s20.2)), some (lstO (List.map vp l27))]) 8 (se_sm (se_callD (js := [0]) (O2 := [some (lstO (poolP r26.2)), some (lstO (List.map vp s13.2)), some (lstO (List.map vp s20.2)), some (lstO (List.map vp s24.2))]) d_law_take hr ((s24.1, (max (1 : Int) r4.1)), r26) h_r26 (sa_o 1 (sa_v (se_max G.b_max (sa_v se_int (sa_v (se_var 2) sa_nil))) sa_nil)) rfl (.o rfl rfl (.v .nil)) rfl rfl)) (se_var 9) h_l27) ?_
        refine sb_cons (ss_set 10 nd (se_callD (js := [0]) (O2 := [some (lstO (poolP r28.2)), some (lstO (List.map vp s13.2)), some (lstO (List.map vp s20.2)), some (lstO (List.map vp l27))]) d_law_take hr ((r26.2, (24 : Int)), r28) h_r28 (sa_o 1 (sa_v se_int sa_nil)) rfl (.o rfl rfl (.v .nil)) rfl rfl)) ?_
        refine sb_cons (C1 := [.v (vp a_script), .o 0, .v (vp r4.1), .v (vp r7.1), .o 1, .v (vp x12), .o 2, .v (vp x19), .o 3, .v (vp x23), .v (vp r28.1), .u, .u, .u, .u, .u]) (O1 := [some (lstO (poolP r29.1)), some (lstO (List.map vp s13.2)), some (lstO (List.map vp s20.2)), some (lstO (List.map vp r29.2))]) (ss_if (st_eqI (se_var 10) se_int) (fun hc => ?_) (fun hc => ?_)) ?_
        · replace h_r29 := ifp h_r29 hc
          obtain ⟨r30, h_r30, h_r29⟩ := bnd h_r29
          obtain ⟨x31, h_x31, h_r29⟩ := bnd h_r29
          obtain ⟨l32, h_l32, h_r29⟩ := bnd h_r29
          have e_ := sinj h_r29
          subst e_
          refine sb_wk0 (C1 := [.v (vp a_script), .o 0, .v (vp r4.1), .v (vp r7.1), .o 1, .v (vp x12), .o 2, .v (vp x19), .o 3, .v (vp x23), .v (vp r28.1), .u, .u, .u, .u, .u]) (O1 := [some (lstO (poolP r30.2)), some (lstO (List.map vp s13.2)), some (lstO (List.map vp s20.2)), some (lstO (List.map vp l32))]) ?_ (by repeat (first | exact Wk.nil | refine Wk.same ?_ | refine Wk.drop ?_))
          refine sb_cons (ss_setixT (fv := vp) (m := 3) (O3 := [some (lstO (poolP r30.2)), some (lstO (List.map vp s13.2)), some (lstO (List.map vp s20.2)), some (lstO (List.map vp l32))]) 8 (se_sm (se_ixF (l := (Lst.mk ([(-(1 : Int)), r4.1, (-(2 : Int)), (-r4.1), (r4.1 + (1 : Int))] : (List Int)))) (se_fz (so_lstV ([(-(1 : Int)), r4.1, (-(2 : Int)), (-r4.1), (r4.1 + (1 : Int))] : (List Int)) (sa_v (se_neg se_int) (sa_v (se_var 2) (sa_v (se_neg se_int) (sa_v (se_neg (se_var 2)) (sa_v (se_add (se_var 2) se_int) sa_nil))))))) (se_callD (js := [0]) (O2 := [some (lstO (poolP r30.2)), some (lstO (List.map vp s13.2)), some (lstO (List.map vp s20.2)), some (lstO (List.map vp l27))]) d_law_take hr ((r28.2, (5 : Int)), r30) h_r30 (sa_o 1 (sa_v se_int sa_nil)) rfl (.o rfl rfl (.v .nil)) rfl rfl) h_x31)) (se_var 9) h_l32) ?_
          exact sb_nil
        · replace h_r29 := ifb h_r29 hc
          have e_ := sinj h_r29
          subst e_
          refine sb_wk0 (C1 := [.v (vp a_script), .o 0, .v (vp r4.1), .v (vp r7.1), .o 1, .v (vp x12), .o 2, .v (vp x19), .o 3, .v (vp x23), .v (vp r28.1), .u, .u, .u, .u, .u]) (O1 := [some (lstO (poolP r28.2)), some (lstO (List.map vp s13.2)), some (lstO (List.map vp s20.2)), some (lstO (List.map vp l27))]) ?_ (by repeat (first | exact Wk.nil | refine Wk.same ?_ | refine Wk.drop ?_))
          exact sb_nil
        refine sb_cons (C1 := [.v (vp a_script), .o 0, .v (vp r4.1), .v (vp r7.1), .o 1, .v (vp x12), .o 2, .v (vp x19), .o 3, .v (vp x23), .v (vp r28.1), .u, .u, .u, .u, .u]) (O1 := [some (lstO (poolP r29.1)), some (lstO (List.map vp s13.2)), some (lstO (List.map vp s20.2)), some (lstO (List.map vp r33))]) (ss_if (st_chain op_le op_le se_int (se_var 10) se_int) (fun hc => ?_) (fun hc => ?_)) ?_
        · replace h_r33 := ifp h_r33 hc
          obtain ⟨l34, h_l34, h_r33⟩ := bnd h_r33
          have e_ := sinj h_r33
          subst e_
          refine sb_wk0 (C1 := [.v (vp a_script), .o 0, .v (vp r4.1), .v (vp r7.1), .o 1, .v (vp x12), .o 2, .v (vp x19), .o 3, .v (vp x23), .v (vp r28.1), .u, .u, .u, .u, .u]) (O1 := [some (lstO (poolP r29.1)), some (lstO (List.map vp s13.2)), some (lstO (List.map vp s20.2)), some (lstO (List.map vp l34))]) ?_ (by repeat (first | exact Wk.nil | refine Wk.same ?_ | refine Wk.drop ?_))
          refine sb_cons (ss_setixT (fv := vp) (m := 3) (O3 := [some (lstO (poolP r29.1)), some (lstO (List.map vp s13.2)), some (lstO (List.map vp s20.2)), some (lstO (List.map vp l34))]) 8 (se_none se_non) (se_var 9) h_l34) ?_
          exact sb_nil
        · replace h_r33 := ifb h_r33 hc
          have e_ := sinj h_r33
          subst e_
          refine sb_wk0 (C1 := [.v (vp a_script), .o 0, .v (vp r4.1), .v (vp r7.1), .o 1, .v (vp x12), .o 2, .v (vp x19), .o 3, .v (vp x23), .v (vp r28.1), .u, .u, .u, .u, .u]) (O1 := [some (lstO (poolP r29.1)), some (lstO (List.map vp s13.2)), some (lstO (List.map vp s20.2)), some (lstO (List.map vp r29.2))]) ?_ (by repeat (first | exact Wk.nil | refine Wk.same ?_ | refine Wk.drop ?_))
          exact sb_nil
        exact sb_nil
      refine sb_fz (m := 3) 8 ?_
      refine sb_cons (ss_appT (fv := vp) (m := 2) (O2 := [some (lstO (poolP r25.1)), some (lstO (List.map vp s13.2)), some (lstO (List.map vp l37)), none]) 6 (se_tup2 (se_ixF (l := (Lst.mk r25.2)) (se_var 8) se_int h_x35) (se_ixF (l := (Lst.mk r25.2)) (se_var 8) se_int h_x36)) h_l37) ?_
      exact sb_nil
    refine sb_fz (m := 2) 6 ?_
    refine sb_cons (ss_appT (fv := vp) (m := 1) (O2 := [some (lstO (poolP r21.1)), some (lstO (List.map vp l38)), none]) 4 (se_var 6) h_l38) ?_
    exact sb_nil
  refine sb_fz (m := 1) 4 ?_
  obtain ⟨z41, h_z41, hm⟩ := bnd hm
  obtain ⟨y42, h_y42, hm⟩ := bnd hm
  obtain ⟨r43, h_r43, hm⟩ := bnd hm
  refine sb_cons (ss_asg (se_callD (js := []) (O2 := [some (lstO (poolP r14.1)), none]) d_law_made hr ((r4.1, (Lst.mk y42.1)), r43) h_r43 (sa_v (se_var 2) (sa_v (se_fz (so_lc (vpb := vp) (vpa := vp) h_y42 (obs := (fun (st_ : Unit) => [some (lstO (poolP r14.1)), none])) (dc := (fun (x_ : (Lst ((Option Int) × (Option Int)))) => [.v (vp a_script), .o 0, .v (vp r4.1), .v (vp r7.1), .v (vp (Lst.mk r14.2)), .u, .v (vp x_), .u, .u, .u, .u, .u, .u, .u, .u, .u])) nd (blkOk_by (N := ["_law_script", "_law_pool_here", "_law_many", "_law_wide", "_law_bolts", "_law_b", "_law_bolt", "_law_w", "_law_shares", "_law_at", "_law_odd", "_law_kind", "_law_room", "_law_fine", "_law_washing", "_law_share"]) (sc := defScope s_law) (own := [("_law_bolt", 6)]) (by decide +kernel)) (si_F (l := (Lst.mk r14.2)) (se_var 4)) rfl (of_if h_z41).1 rfl (hu_of rfl) (by decide) (fun _ => rfl) (fun _ => rfl) (hdc_of (fun _ => rfl)) (fun s_ H_ cc_ cl_ fp_ x39 => (sg_name 6 nd)) (fun s_ H_ cc_ cl_ fp_ x39 s40 q_ b_ hq => by have e_ := sinj hq; subst e_; exact sts_nil) (fun s_ H_ cc_ cl_ fp_ x39 s40 q_ y_ st2_ hin_ hq he => by have e_ := sinj he; cases e_; exact (se_fz (so_listL G.b_list (sl_F (l := x39) (se_var 6))))))) sa_nil)) rfl (.v (.v .nil)) rfl rfl) (sg_tup rfl (sgs_cons (sg_name 11 nd) (sgs_cons (sg_name 12 nd) sgs_nil)))) ?_
  refine sb_ifL (st_of (sw_orT (st_lt (se_var 2) se_int) (sw_or1 (st_gt (se_var 2) se_int)))) (fun hc => ?_) (fun hc => ?_)
  · replace hm := ifp hm hc
    have e_ := sinj hm
    subst e_
    exact sb_endr (ss_ret (se_eqS (se_var 11) se_str))
  · replace hm := ifb hm hc
    refine sb_cons (ss_set 13 nd (se_chain op_le op_le se_int (se_lenLt G.b_len (sl_F (l := (Lst.mk r14.2)) (se_var 4))) se_int)) ?_
    obtain ⟨r46, h_r46, hm⟩ := bnd hm
    refine sb_cons (ss_forN (vpa := vp) h_r46 (fun (s45 : (Bool)) => [.v (vp a_script), .o 0, .v (vp r4.1), .v (vp r7.1), .v (vp (Lst.mk r14.2)), .u, .u, .u, .u, .u, .u, .v (vp r43.1), .v (vp r43.2), .v (vp s45), .u, .u]) (fun (s45 : (Bool)) => [some (lstO (poolP r14.1)), none]) (fun (x44 : (Lst ((Option Int) × (Option Int)))) (s45 : (Bool)) => [.v (vp a_script), .o 0, .v (vp r4.1), .v (vp r7.1), .v (vp (Lst.mk r14.2)), .u, .v (vp x44), .u, .u, .u, .u, .v (vp r43.1), .v (vp r43.2), .v (vp s45), .u, .u]) (si_F (l := (Lst.mk r14.2)) (se_var 4)) rfl ?_ rfl (fun x44 s45 => (sg_name 6 nd)) ?_) ?_
    · repeat (first | exact Wk.nil | refine Wk.same ?_ | refine Wk.drop ?_)
    · rintro x44 s45 s_2 hin_ hf
      obtain ⟨r49, h_r49, hf⟩ := bnd hf
      have e_ := sinj hf
      subst e_
      refine sb_wk0 (C1 := [.v (vp a_script), .o 0, .v (vp r4.1), .v (vp r7.1), .v (vp (Lst.mk r14.2)), .u, .v (vp x44), .u, .u, .u, .u, .v (vp r43.1), .v (vp r43.2), .v (vp r49), .u, .u]) (O1 := [some (lstO (poolP r14.1)), none]) ?_ (by repeat (first | exact Wk.nil | refine Wk.same ?_ | refine Wk.drop ?_))
      refine sb_cons (ss_set 13 nd (se_andT (se_var 13) (se_one (se_le (se_lenLt G.b_len (sl_F (l := x44) (se_var 6))) se_int)))) ?_
      refine sb_cons (ss_forN (vpa := vp) h_r49 (fun (s48 : (Bool)) => [.v (vp a_script), .o 0, .v (vp r4.1), .v (vp r7.1), .v (vp (Lst.mk r14.2)), .u, .v (vp x44), .u, .u, .u, .u, .v (vp r43.1), .v (vp r43.2), .v (vp s48), .u, .u]) (fun (s48 : (Bool)) => [some (lstO (poolP r14.1)), none]) (fun (x47 : ((Option Int) × (Option Int))) (s48 : (Bool)) => [.v (vp a_script), .o 0, .v (vp r4.1), .v (vp r7.1), .v (vp (Lst.mk r14.2)), .u, .v (vp x44), .u, .u, .u, .u, .v (vp r43.1), .v (vp r43.2), .v (vp s48), .v (vp x47), .u]) (si_F (l := x44) (se_var 6)) rfl ?_ rfl (fun x47 s48 => (sg_name 14 nd)) ?_) ?_
      · repeat (first | exact Wk.nil | refine Wk.same ?_ | refine Wk.drop ?_)
      · rintro x47 s48 s_2 hin_ hf
        obtain ⟨r52, h_r52, hf⟩ := bnd hf
        have e_ := sinj hf
        subst e_
        refine sb_wk0 (C1 := [.v (vp a_script), .o 0, .v (vp r4.1), .v (vp r7.1), .v (vp (Lst.mk r14.2)), .u, .v (vp x44), .u, .u, .u, .u, .v (vp r43.1), .v (vp r43.2), .v (vp r52), .v (vp x47), .u]) (O1 := [some (lstO (poolP r14.1)), none]) ?_ (by repeat (first | exact Wk.nil | refine Wk.same ?_ | refine Wk.drop ?_))
        refine sb_cons (ss_forN (vpa := vp) h_r52 (fun (s51 : (Bool)) => [.v (vp a_script), .o 0, .v (vp r4.1), .v (vp r7.1), .v (vp (Lst.mk r14.2)), .u, .v (vp x44), .u, .u, .u, .u, .v (vp r43.1), .v (vp r43.2), .v (vp s51), .v (vp x47), .u]) (fun (s51 : (Bool)) => [some (lstO (poolP r14.1)), none]) (fun (x50 : (Option Int)) (s51 : (Bool)) => [.v (vp a_script), .o 0, .v (vp r4.1), .v (vp r7.1), .v (vp (Lst.mk r14.2)), .u, .v (vp x44), .u, .u, .u, .u, .v (vp r43.1), .v (vp r43.2), .v (vp s51), .v (vp x47), .v (vp x50)]) (si_V (l := [x47.1, x47.2]) (show SE _ _ _ _ _ (vp [x47.1, x47.2]) from (se_var 14))) rfl ?_ rfl (fun x50 s51 => (sg_name 15 nd)) ?_) ?_
        · repeat (first | exact Wk.nil | refine Wk.same ?_ | refine Wk.drop ?_)
        · rintro x50 s51 s_2 hin_ hf
          obtain ⟨b55, h_b55, hf⟩ := bnd hf
          have e_ := sinj hf
          subst e_
          refine sb_wk0 (C1 := [.v (vp a_script), .o 0, .v (vp r4.1), .v (vp r7.1), .v (vp (Lst.mk r14.2)), .u, .v (vp x44), .u, .u, .u, .u, .v (vp r43.1), .v (vp r43.2), .v (vp b55), .v (vp x47), .v (vp x50)]) (O1 := [some (lstO (poolP r14.1)), none]) ?_ (by repeat (first | exact Wk.nil | refine Wk.same ?_ | refine Wk.drop ?_))
          refine sb_cons (ss_set 13 nd (seT (vp b55) [some (lstO (poolP r14.1)), none] (se_and (se_var 13) (fun z => by replace h_b55 := ifp h_b55 z; obtain ⟨b54, h_b54, h_b55⟩ := bnd h_b55; have e_ := sinj h_b55; subst e_; exact (se_one (seT (vp b54) [some (lstO (poolP r14.1)), none] (se_or (se_isN (se_var 15)) (fun z => by obtain ⟨v53, hx_v53⟩ := isN_f z; replace h_b54 := optS h_b54 hx_v53; have e_ := sinj h_b54; subst e_; exact (se_one (se_chain op_le op_lt se_int (se_some (se_var 15) hx_v53) (se_var 2)))) (fun z => by replace h_b54 := optN h_b54 (isN_t z); have e_ := sinj h_b54; subst e_; exact ⟨rfl, rfl⟩))))) (fun z => by replace h_b55 := ifb h_b55 z; have e_ := sinj h_b55; subst e_; exact ⟨rfl, rfl⟩)))) ?_
          exact sb_nil
        exact sb_nil
      exact sb_nil
    refine sb_ifL (st_not (st_val (se_var 13))) (fun hc => ?_) (fun hc => ?_)
    · replace hm := ifp hm hc
      have e_ := sinj hm
      subst e_
      exact sb_endr (ss_ret (se_eqS (se_var 11) se_str))
    · replace hm := ifb hm hc
      obtain ⟨b59, h_b59, hm⟩ := bnd hm
      refine sb_ifL (st_of (swT b59 [some (lstO (poolP r14.1)), none] (sw_or (st_neS (se_var 11) se_str) (fun z => by replace h_b59 := ifb h_b59 z; obtain ⟨v56, h_v56, h_b59⟩ := bnd h_b59; obtain ⟨r57, h_r57, h_b59⟩ := bnd h_b59; obtain ⟨r58, h_r58, h_b59⟩ := bnd h_b59; have e_ := sinj h_b59; subst e_; exact (sw_orT (st_not (st_val (se_callD (js := []) (O2 := [some (lstO (poolP r14.1)), none]) d_law_whole hr (r57, r58) h_r58 (sa_v (se_propD (js := []) (O3 := [some (lstO (poolP r14.1)), none]) p_Room_pieces hr (v56, r57) h_r57 (se_some (se_var 12) h_v56) rfl (.v .nil) rfl rfl) sa_nil) rfl (.v .nil) rfl rfl))) (sw_or1 (st_neI (se_propD (js := []) (O3 := [some (lstO (poolP r14.1)), none]) p_Room_pieces hr (v56, r57) h_r57 (se_some (se_var 12) h_v56) rfl (.v .nil) rfl rfl) se_int)))) (fun z => by replace h_b59 := ifp h_b59 z; have e_ := sinj h_b59; subst e_; exact ⟨rfl, rfl⟩)))) (fun hc => ?_) (fun hc => ?_)
      · replace hm := ifp hm hc
        have e_ := sinj hm
        subst e_
        exact sb_endr (ss_ret se_bl)
      · replace hm := ifb hm hc
        obtain ⟨l60, h_l60, hm⟩ := bnd hm
        refine sb_goF hm (fun (c_ : Ctl Empty (Bool) Unit) => match c_ with | .nx s62 => Out.nx [.v (vp a_script), .o 0, .v (vp r4.1), .v (vp r7.1), .v (vp (Lst.mk r14.2)), .u, .u, .u, .u, .u, .u, .v (vp r43.1), .v (vp r43.2), .v (vp r46), .u, .u] [some (lstO (poolP r14.1)), none] | .rt r_ => Out.rt (vp r_) [] | .ex e_ => e_.elim) (fun (r63 : Unit) => [.v (vp a_script), .o 0, .v (vp r4.1), .v (vp r7.1), .v (vp (Lst.mk r14.2)), .u, .u, .u, .u, .u, .u, .v (vp r43.1), .v (vp r43.2), .v (vp r46), .u, .u]) (fun (r63 : Unit) => [some (lstO (poolP r14.1)), none]) (fun c_ hq_ => ?_) (fun _ => rfl) rfl rfl (fun r63 h_r63 hm => ?_)
        · refine ss_for (vpa := vp) hq_ (fun (s62 : Unit) => [.v (vp a_script), .o 0, .v (vp r4.1), .v (vp r7.1), .v (vp (Lst.mk r14.2)), .u, .u, .u, .u, .u, .u, .v (vp r43.1), .v (vp r43.2), .v (vp r46), .u, .u]) (fun (s62 : Unit) => [some (lstO (poolP r14.1)), none]) (fun (c_ : Ctl Empty (Bool) Unit) => match c_ with | .nx s62 => Out.nx [.v (vp a_script), .o 0, .v (vp r4.1), .v (vp r7.1), .v (vp (Lst.mk r14.2)), .u, .u, .u, .u, .u, .u, .v (vp r43.1), .v (vp r43.2), .v (vp r46), .u, .u] [some (lstO (poolP r14.1)), none] | .rt r_ => Out.rt (vp r_) [] | .ex e_ => e_.elim) (fun (x61 : Int) (s62 : Unit) => [.v (vp a_script), .o 0, .v (vp r4.1), .v (vp r7.1), .v (vp (Lst.mk r14.2)), .v (vp x61), .u, .u, .u, .u, .u, .v (vp r43.1), .v (vp r43.2), .v (vp r46), .u, .u]) rfl (passes_of rfl) rfl (si_rng1 G.b_range (se_lenLt G.b_len (sl_F (l := (Lst.mk r14.2)) (se_var 4))) h_l60) (fun _ => rfl) (fun _ => rfl) (fun e_ => e_.elim) ?_ rfl (fun x61 s62 => (sg_name 5 nd)) ?_
          · repeat (first | exact Wk.nil | refine Wk.same ?_ | refine Wk.drop ?_)
          · rintro x61 s62 c_2 hin_ hf
            obtain ⟨v64, h_v64, hf⟩ := bnd hf
            obtain ⟨r65, h_r65, hf⟩ := bndK hf
            obtain ⟨r66, h_r66, hf⟩ := bnd hf
            obtain ⟨b68, h_b68, hf⟩ := bnd hf
            refine sb_ifL (st_of (swT b68 [some (lstO (poolP r14.1)), none] (sw_or (st_not (st_val (se_callD (js := []) (O2 := [some (lstO (poolP r14.1)), none]) d_law_whole hr (r65, r66) h_r66 (sa_v (se_methD (js := []) (O3 := [some (lstO (poolP r14.1)), none]) d_Room_coming hr ((v64, x61), (.ok r65)) h_r65 (se_some (se_var 12) h_v64) (sa_v (se_var 5) sa_nil) rfl (.v (.v .nil)) rfl rfl) sa_nil) rfl (.v .nil) rfl rfl))) (fun z => by replace h_b68 := ifb h_b68 z; obtain ⟨x67, h_x67, h_b68⟩ := bnd h_b68; have e_ := sinj h_b68; subst e_; exact (sw_or1 (st_neI (se_methD (js := []) (O3 := [some (lstO (poolP r14.1)), none]) d_Room_coming hr ((v64, x61), (.ok r65)) h_r65 (se_some (se_var 12) h_v64) (sa_v (se_var 5) sa_nil) rfl (.v (.v .nil)) rfl rfl) (se_lenLt G.b_len (sl_F (l := x67) (se_ixF (l := (Lst.mk r14.2)) (se_var 4) (se_var 5) h_x67)))))) (fun z => by replace h_b68 := ifp h_b68 z; have e_ := sinj h_b68; subst e_; exact ⟨rfl, rfl⟩)))) (fun hc => ?_) (fun hc => ?_)
            · replace hf := ifp hf hc
              have e_ := sinj hf
              subst e_
              exact sb_endr (ss_ret se_bl)
            · replace hf := ifb hf hc
              have e_ := sinj hf
              subst e_
              exact sb_nilW (by repeat (first | exact Wk.nil | refine Wk.same ?_ | refine Wk.drop ?_))
        refine sb_goF hm (fun (c_ : Ctl Empty (Bool) Unit) => match c_ with | .nx s70 => Out.nx [.v (vp a_script), .o 0, .v (vp r4.1), .v (vp r7.1), .v (vp (Lst.mk r14.2)), .u, .u, .u, .u, .u, .u, .v (vp r43.1), .v (vp r43.2), .v (vp r46), .u, .u] [some (lstO (poolP r14.1)), none] | .rt r_ => Out.rt (vp r_) [] | .ex e_ => e_.elim) (fun (r71 : Unit) => [.v (vp a_script), .o 0, .v (vp r4.1), .v (vp r7.1), .v (vp (Lst.mk r14.2)), .u, .u, .u, .u, .u, .u, .v (vp r43.1), .v (vp r43.2), .v (vp r46), .u, .u]) (fun (r71 : Unit) => [some (lstO (poolP r14.1)), none]) (fun c_ hq_ => ?_) (fun _ => rfl) rfl rfl (fun r71 h_r71 hm => ?_)
        · refine ss_for (vpa := vp) hq_ (fun (s70 : Unit) => [.v (vp a_script), .o 0, .v (vp r4.1), .v (vp r7.1), .v (vp (Lst.mk r14.2)), .u, .u, .u, .u, .u, .u, .v (vp r43.1), .v (vp r43.2), .v (vp r46), .u, .u]) (fun (s70 : Unit) => [some (lstO (poolP r14.1)), none]) (fun (c_ : Ctl Empty (Bool) Unit) => match c_ with | .nx s70 => Out.nx [.v (vp a_script), .o 0, .v (vp r4.1), .v (vp r7.1), .v (vp (Lst.mk r14.2)), .u, .u, .u, .u, .u, .u, .v (vp r43.1), .v (vp r43.2), .v (vp r46), .u, .u] [some (lstO (poolP r14.1)), none] | .rt r_ => Out.rt (vp r_) [] | .ex e_ => e_.elim) (fun (x69 : Int) (s70 : Unit) => [.v (vp a_script), .o 0, .v (vp r4.1), .v (vp r7.1), .v (vp (Lst.mk r14.2)), .u, .v (vp x69), .u, .u, .u, .u, .v (vp r43.1), .v (vp r43.2), .v (vp r46), .u, .u]) rfl (passes_of rfl) rfl (si_F (l := (Lst.mk ([(-(1 : Int)), (-(2 : Int)), (-(r14.2.length : Int)), (r14.2.length : Int), ((r14.2.length : Int) + (900 : Int))] : (List Int)))) (se_fz (so_lstV ([(-(1 : Int)), (-(2 : Int)), (-(r14.2.length : Int)), (r14.2.length : Int), ((r14.2.length : Int) + (900 : Int))] : (List Int)) (sa_v (se_neg se_int) (sa_v (se_neg se_int) (sa_v (se_neg (se_lenLt G.b_len (sl_F (l := (Lst.mk r14.2)) (se_var 4)))) (sa_v (se_lenLt G.b_len (sl_F (l := (Lst.mk r14.2)) (se_var 4))) (sa_v (se_add (se_lenLt G.b_len (sl_F (l := (Lst.mk r14.2)) (se_var 4))) se_int) sa_nil)))))))) (fun _ => rfl) (fun _ => rfl) (fun e_ => e_.elim) ?_ rfl (fun x69 s70 => (sg_name 6 nd)) ?_
          · repeat (first | exact Wk.nil | refine Wk.same ?_ | refine Wk.drop ?_)
          · rintro x69 s70 c_2 hin_ hf
            obtain ⟨v72, h_v72, hf⟩ := bnd hf
            obtain ⟨r73, h_r73, hf⟩ := bnd hf
            refine sb_ifL (st_not (st_val (se_callD (js := []) (O2 := [some (lstO (poolP r14.1)), none]) d_law_no_bolt hr ((v72, x69), r73) h_r73 (sa_v (se_some (se_var 12) h_v72) (sa_v (se_var 6) sa_nil)) rfl (.v (.v .nil)) rfl rfl))) (fun hc => ?_) (fun hc => ?_)
            · replace hf := ifp hf hc
              have e_ := sinj hf
              subst e_
              exact sb_endr (ss_ret se_bl)
            · replace hf := ifb hf hc
              have e_ := sinj hf
              subst e_
              exact sb_nilW (by repeat (first | exact Wk.nil | refine Wk.same ?_ | refine Wk.drop ?_))
        obtain ⟨v74, h_v74, hm⟩ := bnd hm
        obtain ⟨r75, h_r75, hm⟩ := bnd hm
        have e_ := sinj hm
        subst e_
        exact sb_endr (ss_ret (se_eqD hr (se_fz (so_listG G.b_list g_Room_walk hr (v74, r75) h_r75 (se_some (se_var 12) h_v74) rfl rfl rfl)) (se_fz (so_lstV ([] : (List (T3 Int Int Int))) sa_nil))))
end K2

namespace K2
open PySem L2 SIM
/-! ### the pool -/
structure PoolOk (n : Nat) (p : Pool) : Prop where
  len : p.cells.length ≤ 63
  bits : ∀ c ∈ p.cells, c.natAbs < 2 ^ 1048576
  at0 : 0 ≤ p.at_
  t0 : 0 ≤ p.turn
  t1 : p.turn ≤ n
theorem PoolOk.mono {n m : Nat} {p : Pool} (h : PoolOk n p) (k : n ≤ m) : PoolOk m p := ⟨h.len, h.bits, h.at0, h.t0, by have := h.t1; omega⟩
theorem dbl {x : Int} {k : Nat} (h : x.natAbs < 2 ^ k) (hk : 1 ≤ k) : (x + 2).natAbs < 2 ^ (k + 1) := by
  rw [Nat.pow_succ]
  have : 2 ^ 1 ≤ 2 ^ k := Nat.pow_le_pow_right (by decide) hk
  omega
theorem take_ok {n : Nat} {p : Pool} {k : Int} (h : PoolOk n p) (hn : n ≤ 1000000000) (h1 : 1 ≤ k) (h2 : k ≤ 1000000000) : Tot (m_law_take p k) fun r => 0 ≤ r.1 ∧ r.1 < k ∧ PoolOk (n + 1) r.2 := by
  obtain ⟨h3, h4, h5, h6, h7⟩ := h
  have md : ∀ x : Int, 0 ≤ x % k ∧ x % k < k := fun x => ⟨Int.emod_nonneg _ (by omega), Int.emod_lt_of_pos _ (by omega)⟩
  have bt : ∀ {c : Int}, c ∈ p.cells → fits (c + 2) := fun {c} hc => fits_two (k := 1048576 + 1) (dbl (h4 c hc) (by decide)) (by decide)
  unfold m_law_take
  refine tbind (P := fun b => b = true → p.at_ < p.cells.length) ?_ fun b4 hb4 => ?_
  · refine tif (fun hc => ?_) fun hc => Tot.pure (by simp)
    refine tbind (P := fun b => b = true → p.at_ < p.cells.length) ?_ fun b3 hb3 => Tot.pure hb3
    refine tif (fun hc => ?_) fun hc => Tot.pure (by simp)
    have hc := of_decide_eq_true hc
    obtain ⟨x, e1, _⟩ := ixL_lt (l := p.cells) h5 hc
    refine tbindE e1 ?_
    refine tbindE (powI_eq (by decide) (by decide) (by decide)) ?_
    exact Tot.pure fun _ => hc
  refine tbind (P := fun q => q.cells = p.cells ∧ 0 ≤ q.at_ ∧ q.turn = p.turn + 1) ?_ fun q hq => ?_
  · refine tif (fun hc => ?_) fun hc => Tot.pure ⟨rfl, h5, rfl⟩
    obtain ⟨x, e1, _⟩ := ixL_lt (l := p.cells) h5 (hb4 hc)
    refine tbindE e1 ?_
    exact Tot.pure ⟨rfl, by show 0 ≤ p.at_ + 1; omega, rfl⟩
  obtain ⟨q1, q2, q3⟩ := hq
  have ok : ∀ q' : Pool, q'.cells = p.cells → 0 ≤ q'.at_ → q'.turn = p.turn + 1 → PoolOk (n + 1) q' := fun q' e1 e2 e3 => ⟨by rw [e1]; exact h3, by rw [e1]; exact h4, e2, by omega, by omega⟩
  refine tif (fun hc => ?_) fun hc => ?_
  · refine tbindE (modI_eq (by omega)) ?_
    refine tbindE (divI_small (by omega) (by omega)) ?_
    exact Tot.pure ⟨(md _).1, (md _).2, ok _ q1 q2 q3⟩
  refine tif (fun hc => ?_) fun hc => ?_
  · refine tbindE (modI_eq (by omega)) ?_
    exact Tot.pure ⟨(md _).1, (md _).2, ok _ q1 q2 q3⟩
  have hl : (0 : Int) < p.cells.length := by
    have : ¬ ((p.cells.length : Int) = 0) := by simpa using hc
    omega
  refine tbindE (modI_eq hl) ?_
  obtain ⟨x, e1, e2⟩ := ixL_lt (l := p.cells) (i := q.at_ % (p.cells.length : Int)) (Int.emod_nonneg _ (by omega)) (Int.emod_lt_of_pos _ hl)
  refine tbindE e1 ?_
  have hx := List.mem_of_getElem? e2
  refine tbindE (mulI_eq (bt hx) (fits_small (by omega))) ?_
  refine tbindE (mulI_eq ?_ (fits_small (by decide))) ?_
  · refine fits_two (k := 1048576 + 1 + 64) ?_ (by decide)
    rw [Int.natAbs_mul, Nat.pow_add]
    have b1 : (x + 2).natAbs < 2 ^ (1048576 + 1) := dbl (h4 x hx) (by decide)
    have b2 : (p.turn + 3).natAbs < 2 ^ 64 := by omega
    exact Nat.mul_lt_mul'' b1 b2
  refine tbindE (mulI_eq (fits_small (by omega)) (fits_small (by omega))) ?_
  refine tbindE (modI_eq (by decide)) ?_
  refine tbindE (modI_eq (by omega)) ?_
  exact Tot.pure ⟨(md _).1, (md _).2, ok _ q1 (by show 0 ≤ q.at_ + 1; omega) q3⟩
theorem pool_ok {z : Scr} (h : z.l.length ≤ 63) (hb : ∀ c ∈ z.l, Builtin.Int.intBits c ≤ 1048576) : Tot (m_law_pool z) fun p => PoolOk 0 p := by
  unfold m_law_pool
  exact Tot.pure ⟨h, fun c hc => PySem.intBits_le_iff.mp (hb c hc), Int.le_refl _, Int.le_refl _, Int.le_refl _⟩
theorem draw {β : Type} {n : Nat} {p : Pool} {k : Int} {f : Int × Pool → Option β} {Q : β → Prop} (h : PoolOk n p) (hn : n ≤ 1000000000) (h1 : 1 ≤ k) (h2 : k ≤ 1000000000) (g : ∀ r : Int × Pool, 0 ≤ r.1 → r.1 < k → PoolOk (n + 1) r.2 → Tot (f r) Q) : Tot ((m_law_take p k).bind f) Q :=
  tbind (take_ok h hn h1 h2) fun r hr => g r hr.1 hr.2.1 hr.2.2

/-! ### bolts -/
theorem okR_of {ε α β : Type} {m : Option (Res ε α)} {a : α} {f : α → Option β} {Q : β → Prop} (h : m = some (.ok a)) (k : Tot (f a) Q) : Tot (Option.bind (okR m) f) Q := by rw [h]; exact k
abbrev Wsh := Option Int × Option Int
def shareB (n : Int) (x : Option Int) : Bool := optE x true fun v => decide (0 ≤ v) && decide (v < n)
def washB (n : Int) (w : Wsh) : Bool := shareB n w.1 && shareB n w.2
def boltB (n : Int) (b : Lst Wsh) : Bool := decide ((b.l.length : Int) ≤ 4) && b.l.all (washB n)
theorem share_step (n : Int) (x : Option Int) : (Option.bind (optE x (some false) fun v7 => some (!((decide ((0 : Int) ≤ v7)) && (decide (v7 < n))))) fun b8 => if b8 = true then (some (.ex (Err.e .badBolt))) else (some (.nx ())) : Option (Ctl Err (List Wsh) Unit)) = some (if shareB n x then .nx () else .ex (Err.e .badBolt)) := by
  cases x with
  | none => rfl
  | some v =>
    unfold shareB
    show (if (!((decide ((0 : Int) ≤ v)) && (decide (v < n)))) = true then _ else _) = some (if ((decide ((0 : Int) ≤ v)) && (decide (v < n))) = true then _ else _)
    cases (decide ((0 : Int) ≤ v) && decide (v < n)) <;> rfl
theorem wash_loop (n : Int) : ∀ (l : List Wsh), loopM (ε := Err) (ρ := (List ((Option Int) × (Option Int)))) (fun (x1 : ((Option Int) × (Option Int))) (s2 : Unit) => goC (loopM (ε := Err) (ρ := ((List ((Option Int) × (Option Int))))) (fun (x4 : (Option Int)) (s5 : Unit) => Option.bind (optE x4 (some false) fun v7 =>  some (!((decide ((0 : Int) ≤ v7)) && (decide (v7 < n))))) fun b8 => if b8 = true then (some (.ex (Err.e .badBolt))) else (some (.nx ()))) ([x1.1, x1.2] : (List (Option Int))) ()) fun r6 => some (.nx ())) l () = some (if l.all (washB n) then .nx () else .ex (Err.e .badBolt))
  | [] => rfl
  | w :: l => by
    rw [loopM]
    have inner : loopM (ε := Err) (ρ := ((List ((Option Int) × (Option Int))))) (fun (x4 : (Option Int)) (s5 : Unit) => Option.bind (optE x4 (some false) fun v7 =>  some (!((decide ((0 : Int) ≤ v7)) && (decide (v7 < n))))) fun b8 => if b8 = true then (some (.ex (Err.e .badBolt))) else (some (.nx ()))) ([w.1, w.2] : (List (Option Int))) () = some (if washB n w then .nx () else .ex (Err.e .badBolt)) := by
      rw [loopM, share_step]
      unfold washB
      cases shareB n w.1 with
      | false => rfl
      | true =>
        show loopM _ [w.2] () = _
        rw [loopM, share_step]
        cases shareB n w.2 <;> rfl
    rw [inner, List.all_cons]
    cases washB n w with
    | false => rfl
    | true =>
      show loopM _ l () = _
      rw [wash_loop n l]; rfl
theorem checked_eq (n : Int) (b : Lst Wsh) : m_checked_washings b n = some (if boltB n b then .ok b.l else .er (Err.e .badBolt)) := by
  unfold m_checked_washings boltB
  by_cases h : (4 : Int) < (b.l.length : Int)
  · rw [if_pos (decide_eq_true h), if_neg (by simp; omega)]
  · rw [if_neg (by simpa using h), decide_eq_true (by omega : (b.l.length : Int) ≤ 4), Bool.true_and]
    show goR (loopM _ b.l ()) _ = _
    rw [wash_loop]
    cases b.l.all (washB n) <;> rfl
theorem bolts_eq (n : Int) : ∀ (bs : List (Lst Wsh)), compR (fun (x1 : (Lst ((Option Int) × (Option Int)))) => (bindR (m_checked_washings x1 n) fun r2 => some (.ok r2) : Option (Res Err (List ((Option Int) × (Option Int)))))) bs = some (if bs.all (boltB n) then .ok (bs.map fun b => b.l) else .er (Err.e .badBolt))
  | [] => rfl
  | b :: bs => by
    rw [compR, checked_eq, List.all_cons]
    cases boltB n b with
    | false => rfl
    | true =>
      show bindR (compR _ bs) _ = _
      rw [bolts_eq n bs]
      cases bs.all (boltB n) <;> rfl
def fineB (n : Int) (bs : List (Lst Wsh)) : Bool := (decide ((1 : Int) ≤ (bs.length : Int)) && decide ((bs.length : Int) ≤ 4)) && bs.all (boltB n)
theorem room_eq (n : Int) (bs : List (Lst Wsh)) (hl : bs.length ≤ 1000) : m_Room_init n (Lst.mk bs) = some (if (decide (1 ≤ n) && decide (n ≤ 4)) = true then (if fineB n bs = true then .ok ⟨n, ⟨bs.map fun b => b.l⟩, ⟨[]⟩⟩ else .er (Err.e .badBolt)) else .er (Err.e .badShares)) := by
  unfold m_Room_init fineB
  cases (decide (1 ≤ n) && decide (n ≤ 4)) with
  | false => rfl
  | true =>
    rw [if_neg (by decide), if_pos rfl]
    dsimp only
    cases (decide ((1 : Int) ≤ (bs.length : Int)) && decide ((bs.length : Int) ≤ 4)) with
    | false => rfl
    | true =>
      rw [if_neg (by decide), lenOk_eq hl]
      show bindR (compR _ bs) _ = _
      rw [bolts_eq]
      cases bs.all (boltB n) <;> rfl
theorem made_eq (n : Int) (bs : List (Lst Wsh)) (hl : bs.length ≤ 1000) : m_law_made n (Lst.mk bs) = some (if (decide (1 ≤ n) && decide (n ≤ 4)) = true then (if fineB n bs = true then (("made" : Str), some ⟨n, ⟨bs.map fun b => b.l⟩, ⟨[]⟩⟩) else (("BadBolt" : Str), none)) else (("BadShares" : Str), none)) := by
  unfold m_law_made
  rw [room_eq n bs hl]
  cases (decide (1 ≤ n) && decide (n ≤ 4)) with
  | false => rfl
  | true => cases fineB n bs <;> rfl
theorem fold_all {α : Type} {f : α → Bool → Option Bool} {g : α → Bool} (h : ∀ x b, f x b = some (b && g x)) : ∀ (l : List α) (b : Bool), foldM f l b = some (b && l.all g)
  | [], b => by simp [foldM]
  | a :: l, b => by
    rw [foldM, h]
    show foldM f l (b && g a) = _
    rw [fold_all h l, List.all_cons, Bool.and_assoc]
theorem coming_ok {r : Rom} {i : Nat} {b : List Wsh} (h : r.to_come.l[i]? = some b) : m_Room_coming r (i : Int) = some (.ok (b.length : Int)) := by
  have hl := (List.getElem?_eq_some_iff.mp h).1
  unfold m_Room_coming m_Room__check_bolt
  rw [if_neg (by simp; omega)]
  show Option.bind (ixL r.to_come.l (i : Int)) _ = _
  rw [ixL_nat h]; rfl
theorem coming_no {r : Rom} {i : Int} (h : ¬ (0 ≤ i ∧ i < r.to_come.l.length)) : m_law_no_bolt r i = some true := by
  unfold m_law_no_bolt m_Room_coming m_Room__check_bolt
  rw [if_pos (by simp; omega)]; rfl
theorem law_true (z : Scr) (hz : z.l.length ≤ 63) (hb : ∀ c ∈ z.l, Builtin.Int.intBits c ≤ 1048576) : m_law z = some true := by
  have main : Tot (m_law z) fun r => r = true := by
    unfold m_law
    refine tbind (pool_ok hz hb) fun r1 p1 => ?_
    refine draw p1 (by decide) (by decide) (by decide) fun r2 a2 b2 p2 => ?_
    refine draw p2 (by decide) (by decide) (by decide) fun r3 a3 b3 p3 => ?_
    refine tbind (P := fun r => (-10 ≤ r.1 ∧ r.1 ≤ 10) ∧ PoolOk 3 r.2) ?_ fun r4 ⟨h4, p4⟩ => ?_
    · refine tif (fun _ => ?_) fun _ => Tot.pure ⟨by constructor <;> dsimp only <;> omega, p3.mono (by decide)⟩
      refine draw p3 (by decide) (by decide) (by decide) fun r5 a5 b5 p5 => ?_
      refine tbind (ixL_all (fun x : Int => -10 ≤ x ∧ x ≤ 10) a5 (by simp; omega) (by simp)) fun x6 h6 => Tot.pure ⟨h6, p5⟩
    refine draw p4 (by decide) (by decide) (by decide) fun r7 a7 b7 p7 => ?_
    refine tbind (P := fun c => (0 ≤ c.1 ∧ c.1 ≤ 6) ∧ PoolOk 5 c.2) ?_ fun c10 ⟨hc, pc⟩ => ?_
    · refine tif (fun _ => ?_) fun _ => ?_
      · refine draw p7 (by decide) (by decide) (by decide) fun r8 a8 b8 p8 => ?_
        exact Tot.pure ⟨⟨a8, by show r8.1 ≤ 6; omega⟩, p8⟩
      · refine draw p7 (by decide) (by decide) (by decide) fun r8 a8 b8 p8 => ?_
        exact Tot.pure ⟨⟨by show 0 ≤ 1 + r8.1; omega, by show 1 + r8.1 ≤ 6; omega⟩, p8⟩
    obtain ⟨nb, enb⟩ : ∃ k : Nat, c10.1 = (k : Int) := ⟨c10.1.toNat, by omega⟩
    rw [enb]
    refine tbindE (rng0 (by omega)) ?_
    refine tbind (tfold (fun i s => PoolOk (5 + 50 * i) s.1 ∧ s.2.length = i) ⟨pc, rfl⟩ ?_) fun r14 h14 => ?_
    · rintro i x s hx ⟨q1, q2⟩
      obtain ⟨hi, rfl⟩ := range_get hx
      refine tbind (P := fun c => (0 ≤ c.1 ∧ c.1 ≤ 6) ∧ PoolOk (6 + 50 * i) c.2) ?_ fun c17 ⟨h17, p17⟩ => ?_
      · refine tif (fun _ => ?_) fun _ => ?_
        · refine draw q1 (by omega) (by decide) (by decide) fun r8 a8 b8 p8 => ?_
          exact Tot.pure ⟨⟨a8, by show r8.1 ≤ 6; omega⟩, p8.mono (by omega)⟩
        · refine draw q1 (by omega) (by decide) (by decide) fun r8 a8 b8 p8 => ?_
          exact Tot.pure ⟨⟨a8, by show r8.1 ≤ 6; omega⟩, p8.mono (by omega)⟩
      obtain ⟨nw, enw⟩ : ∃ k : Nat, c17.1 = (k : Int) := ⟨c17.1.toNat, by omega⟩
      rw [enw]
      refine tbindE (rng0 (by omega)) ?_
      refine tbind (tfold (fun j s => PoolOk (6 + 50 * i + 6 * j) s.1 ∧ s.2.length = j) ⟨p17, rfl⟩ ?_) fun r21 h21 => ?_
      · rintro j x s hx ⟨q3, q4⟩
        obtain ⟨hj, rfl⟩ := range_get hx
        refine tbindE (rng0 (n := 2) (by decide)) ?_
        refine tbind (tfold (fun k s => PoolOk (6 + 50 * i + 6 * j + 3 * k) s.1 ∧ s.2.length = 2) ⟨q3, rfl⟩ ?_) fun r25 h25 => ?_
        · rintro k x s hx ⟨q5, q6⟩
          obtain ⟨hk, rfl⟩ := range_get hx
          refine draw q5 (by omega) (by omega) (by omega) fun r26 a26 b26 p26 => ?_
          refine tbindE (setM_int (by omega) (by omega)) ?_
          refine draw p26 (by omega) (by decide) (by decide) fun r28 a28 b28 p28 => ?_
          refine tbind (P := fun r => PoolOk (6 + 50 * i + 6 * j + 3 * (k + 1)) r.1 ∧ r.2.length = 2) ?_ fun r29 ⟨p29, l29⟩ => ?_
          · refine tif (fun _ => ?_) fun _ => Tot.pure ⟨p28.mono (by omega), by simp [q6]⟩
            refine draw p28 (by omega) (by decide) (by decide) fun r30 a30 b30 p30 => ?_
            obtain ⟨x31, e31, _⟩ := ixL_lt (l := ([(-(1 : Int)), r4.1, (-(2 : Int)), (-r4.1), (r4.1 + (1 : Int))] : (List Int))) a30 (by simpa using b30)
            refine tbindE e31 ?_
            refine tbindE (setM_int (by omega) (by simp; omega)) ?_
            exact Tot.pure ⟨p30, by simp [q6]⟩
          refine tbind (P := fun r => r.length = 2) ?_ fun r33 l33 => Tot.pure ⟨p29, l33⟩
          refine tif (fun _ => ?_) fun _ => Tot.pure l29
          refine tbindE (setM_int (by omega) (by omega)) ?_
          exact Tot.pure (by simp [l29])
        · rw [List.length_map, List.length_range] at h25
          obtain ⟨x35, e35, _⟩ := ixL_lt (l := r25.2) (i := 0) (by decide) (by rw [h25.2]; decide)
          obtain ⟨x36, e36, _⟩ := ixL_lt (l := r25.2) (i := 1) (by decide) (by rw [h25.2]; decide)
          refine tbindE e35 ?_
          refine tbindE e36 ?_
          refine tbindE (appM_eq (by omega)) ?_
          exact Tot.pure ⟨h25.1.mono (by omega), by simp [q4]⟩
      · rw [List.length_map, List.length_range] at h21
        refine tbindE (appM_eq (by omega)) ?_
        exact Tot.pure ⟨h21.1.mono (by omega), by simp [q2]⟩
    rw [List.length_map, List.length_range] at h14
    obtain ⟨p14, l14⟩ := h14
    obtain ⟨pl, bs⟩ := r14
    obtain ⟨n, pn⟩ := r4
    dsimp only at p14 l14 h4 ⊢
    refine tbindE (lenOk_eq (by omega)) ?_
    refine tbindE (compM_mapU (g := fun x : Lst Wsh => x) fun x _ => rfl) ?_
    rw [List.map_id']
    dsimp only
    refine tbindE (made_eq n bs (by omega)) ?_
    refine tif (fun hc => ?_) fun hc => ?_
    · refine Tot.pure ?_
      have : (decide (1 ≤ n) && decide (n ≤ 4)) = false := by simp at hc ⊢; omega
      rw [this]
      simp
    have hn : (decide (1 ≤ n) && decide (n ≤ 4)) = true := by simp at hc ⊢; omega
    rw [hn, if_pos rfl]
    refine tbindE (a := fineB n bs) ?_ ?_
    · rw [fold_all (g := boltB n) (fun x b => ?_)]
      · rfl
      · show Option.bind (foldM _ x.l _) _ = _
        rw [fold_all (g := washB n) (fun w c => ?_)]
        · show some _ = some _
          unfold boltB
          rw [Bool.and_assoc]
        · show Option.bind (foldM _ [w.1, w.2] c) _ = _
          rw [fold_all (g := shareB n) (fun y d => ?_)]
          · show some _ = some _
            unfold washB
            simp
          · cases d with
            | false => rfl
            | true => cases y <;> rfl
    cases hf : fineB n bs with
    | false => exact tifp rfl (Tot.pure (by simp))
    | true =>
      have hlen : 1 ≤ bs.length := by
        unfold fineB at hf
        simp at hf
        omega
      refine tifn (by decide) ?_
      rw [if_pos rfl]
      refine tbindE (a := false) ?_ ?_
      · rw [if_neg (by simp)]
        rfl
      refine tifn (by decide) ?_
      refine tbindE (rng0 (by omega)) ?_
      refine tgoF (P := fun c => ∃ s, c = .nx s ∧ True) (tloopN (fun _ _ => True) trivial fun i x s hx _ => ?_) (fun s _ => ?_) (fun r ⟨_, h, _⟩ => nomatch h)
      · obtain ⟨hi, rfl⟩ := range_get hx
        obtain ⟨b, hb⟩ : ∃ b, bs[i]? = some b := ⟨bs[i], List.getElem?_eq_getElem hi⟩
        refine tbindE (a := ⟨n, ⟨bs.map fun b => b.l⟩, ⟨[]⟩⟩) rfl ?_
        refine okR_of (coming_ok (b := b.l) (by show (bs.map fun b => b.l)[i]? = _; rw [List.getElem?_map, hb]; rfl)) ?_
        refine tbindE (a := true) rfl ?_
        refine tbindE (a := false) ?_ (tifn (by decide) (Tot.pure ⟨(), rfl, trivial⟩))
        rw [if_neg (by decide), ixL_nat hb]
        show some _ = _
        simp
      refine tgoF (P := fun c => ∃ s, c = .nx s ∧ True) (tloopN (fun _ _ => True) trivial fun i x s hx _ => ?_) (fun s _ => ?_) (fun r ⟨_, h, _⟩ => nomatch h)
      · have hx := List.mem_of_getElem? hx
        refine tbindE (a := ⟨n, ⟨bs.map fun b => b.l⟩, ⟨[]⟩⟩) rfl ?_
        refine tbindE (coming_no (by
          show ¬ (0 ≤ x ∧ x < ((bs.map fun b => b.l).length : Int))
          rw [List.length_map]
          simp only [List.mem_cons, List.not_mem_nil, or_false] at hx
          omega)) ?_
        exact tifn (by decide) (Tot.pure ⟨(), rfl, trivial⟩)
      refine tbindE (a := ⟨n, ⟨bs.map fun b => b.l⟩, ⟨[]⟩⟩) rfl ?_
      refine tbindE (a := []) rfl ?_
      exact Tot.pure (by simp)
  obtain ⟨r, h, rfl⟩ := main
  exact h

end K2
namespace K2
open PySem L2 PyProof.Rows SIM
theorem all_mk {l : PySem.W.OpenLaw} {w : World} {K : PySem.W.Frag} {h : Heap} {mg : Str → Option Value} {fa C_Room E_BadBolt E_BadShares E_NoBolt f_law_pool f_law_take f_checked_washings f_Room_init f_law_made f_Room_pieces P_Room_pieces f_law_whole f_Room__check_bolt f_Room_coming f_law_no_bolt f_Room_walk f_law : Addr} (X : K.In h) (G : h.Ns mainGlobals mg) (hfa : mg "law" = some (.ref fa))
    {oc0 kV0 dc0 pm0 cd0 ct0 : Value} {od0 an0 : Option Addr} {sl0 : Array (Option Value)}
    {oc1 kV1 dc1 pm1 cd1 ct1 : Value} {od1 an1 : Option Addr} {sl1 : Array (Option Value)}
    {oc2 kV2 dc2 pm2 cd2 ct2 : Value} {od2 an2 : Option Addr} {sl2 : Array (Option Value)}
    {oc3 kV3 dc3 pm3 cd3 ct3 : Value} {od3 an3 : Option Addr} {sl3 : Array (Option Value)}
    {oc4 kV4 dc4 pm4 cd4 ct4 : Value} {od4 an4 : Option Addr} {sl4 : Array (Option Value)}
    {rest_P_Room_pieces : List Value}
    {oc5 kV5 dc5 pm5 cd5 ct5 : Value} {od5 an5 : Option Addr} {sl5 : Array (Option Value)}
    {oc6 kV6 dc6 pm6 cd6 ct6 : Value} {od6 an6 : Option Addr} {sl6 : Array (Option Value)}
    {oc7 kV7 dc7 pm7 cd7 ct7 : Value} {od7 an7 : Option Addr} {sl7 : Array (Option Value)}
    {oc8 kV8 dc8 pm8 cd8 ct8 : Value} {od8 an8 : Option Addr} {sl8 : Array (Option Value)}
    {oc9 kV9 dc9 pm9 cd9 ct9 : Value} {od9 an9 : Option Addr} {sl9 : Array (Option Value)}
    {oc10 kV10 dc10 pm10 cd10 ct10 : Value} {od10 an10 : Option Addr} {sl10 : Array (Option Value)}
    {oc11 kV11 dc11 pm11 cd11 ct11 : Value} {od11 an11 : Option Addr} {sl11 : Array (Option Value)}
    {t_MOST_BOLTS t_MOST_SHARES t_MOST_WASHINGS : Tok}
    (aC_Room : PySem.W.nsIn K mainGlobals "Room" = some (some (.ref C_Room)))
    (pgC_Room : PySem.W.plainGet K C_Room Str.empty = true)
    (hdC_Room : PySem.W.hasDictIn K C_Room = true)
    (poC_Room : PySem.W.plainOver K C_Room = true)
    (saC_Room : PySem.W.findIn K (.ref C_Room) "__setattr__" = some (some (.builtin "object.__setattr__")))
    (rdC_Room : PySem.W.readsIn K C_Room (.type "type") = true)
    (gaC_Room : PySem.W.specialIn K (.ref C_Room) "__getattribute__" = some (some (.builtin "type.__getattribute__")))
    (clC_Room : PySem.W.findIn K (.ref C_Room) "__class__" = some (some (.builtin "object.__class__")))
    (hnC_Room : PySem.W.specialIn K (.builtin "object.__class__") "__get__" = some (some (.builtin "getset_descriptor.__get__")))
    (tkC_Room : PySem.W.takesIn K (.builtin "object.__class__") = some true)
    (mrC_Room : PySem.W.mroIn K C_Room (.type "object") = some true)
    (nC_Room__cloth : PySem.W.findIn K (.ref C_Room) "_cloth" = some none)
    (nC_Room__shares : PySem.W.findIn K (.ref C_Room) "_shares" = some none)
    (nC_Room__to_come : PySem.W.findIn K (.ref C_Room) "_to_come" = some none)
    (z_bool : PySem.W.nsIn K mainGlobals "bool" = some none)
    (z_int : PySem.W.nsIn K mainGlobals "int" = some none)
    (z_isinstance : PySem.W.nsIn K mainGlobals "isinstance" = some none)
    (z_len : PySem.W.nsIn K mainGlobals "len" = some none)
    (z_list : PySem.W.nsIn K mainGlobals "list" = some none)
    (z_max : PySem.W.nsIn K mainGlobals "max" = some none)
    (z_range : PySem.W.nsIn K mainGlobals "range" = some none)
    (z_tuple : PySem.W.nsIn K mainGlobals "tuple" = some none)
    (aE_BadBolt : PySem.W.nsIn K mainGlobals "BadBolt" = some (some (.ref E_BadBolt)))
    (xE_BadBolt : PySem.W.excIn K E_BadBolt [.type "ValueError", .type "Exception", .type "BaseException", .type "object"] "ValueError.__new__" = true)
    (kE_BadBolt : PySem.W.keepIn K (.ref E_BadBolt) = true)
    (bE_BadBolt : PySem.W.subIn K (.ref E_BadBolt) (.type "BaseException") = some true)
    (tE_BadBolt : PySem.W.typeIn K (.ref E_BadBolt) = some (.type "type"))
    (aE_BadShares : PySem.W.nsIn K mainGlobals "BadShares" = some (some (.ref E_BadShares)))
    (xE_BadShares : PySem.W.excIn K E_BadShares [.type "ValueError", .type "Exception", .type "BaseException", .type "object"] "ValueError.__new__" = true)
    (kE_BadShares : PySem.W.keepIn K (.ref E_BadShares) = true)
    (bE_BadShares : PySem.W.subIn K (.ref E_BadShares) (.type "BaseException") = some true)
    (tE_BadShares : PySem.W.typeIn K (.ref E_BadShares) = some (.type "type"))
    (aE_NoBolt : PySem.W.nsIn K mainGlobals "NoBolt" = some (some (.ref E_NoBolt)))
    (xE_NoBolt : PySem.W.excIn K E_NoBolt [.type "ValueError", .type "Exception", .type "BaseException", .type "object"] "ValueError.__new__" = true)
    (kE_NoBolt : PySem.W.keepIn K (.ref E_NoBolt) = true)
    (bE_NoBolt : PySem.W.subIn K (.ref E_NoBolt) (.type "BaseException") = some true)
    (tE_NoBolt : PySem.W.typeIn K (.ref E_NoBolt) = some (.type "type"))
    (n_MOST_BOLTS : PySem.W.nsIn K mainGlobals "MOST_BOLTS" = some (some (.int 4 t_MOST_BOLTS)))
    (n_MOST_SHARES : PySem.W.nsIn K mainGlobals "MOST_SHARES" = some (some (.int 4 t_MOST_SHARES)))
    (n_MOST_WASHINGS : PySem.W.nsIn K mainGlobals "MOST_WASHINGS" = some (some (.int 4 t_MOST_WASHINGS)))
    (t_int_bool : PySem.W.kitOne K (.type "int") (.type "bool") = some false)
    (iE_BadBolt : PySem.W.isClsIn K E_BadBolt = true)
    (zE_BadBoltE_BadBolt : PySem.W.subIn K (.ref E_BadBolt) (.ref E_BadBolt) = some true)
    (zE_BadSharesE_BadBolt : PySem.W.subIn K (.ref E_BadShares) (.ref E_BadBolt) = some false)
    (zE_NoBoltE_BadBolt : PySem.W.subIn K (.ref E_NoBolt) (.ref E_BadBolt) = some false)
    (iE_BadShares : PySem.W.isClsIn K E_BadShares = true)
    (zE_BadBoltE_BadShares : PySem.W.subIn K (.ref E_BadBolt) (.ref E_BadShares) = some false)
    (zE_BadSharesE_BadShares : PySem.W.subIn K (.ref E_BadShares) (.ref E_BadShares) = some true)
    (zE_NoBoltE_BadShares : PySem.W.subIn K (.ref E_NoBolt) (.ref E_BadShares) = some false)
    (iE_NoBolt : PySem.W.isClsIn K E_NoBolt = true)
    (zE_BadBoltE_NoBolt : PySem.W.subIn K (.ref E_BadBolt) (.ref E_NoBolt) = some false)
    (zE_BadSharesE_NoBolt : PySem.W.subIn K (.ref E_BadShares) (.ref E_NoBolt) = some false)
    (zE_NoBoltE_NoBolt : PySem.W.subIn K (.ref E_NoBolt) (.ref E_NoBolt) = some true)
    (af_law_pool : PySem.W.nsIn K mainGlobals "_law_pool" = some (some (.ref f_law_pool)))
    (lf_law_pool : K.lookup f_law_pool = some ⟨oc0, od0, .func (PySem.W.fnOf "_law_pool" "_law_pool" (defArgs s_law_pool) (defBody s_law_pool) (defScope s_law_pool) .none kV0 dc0 pm0 an0 cd0 ct0), sl0⟩)
    (cf_law_pool : PySem.W.codeIn K cd0 "_law_pool" = true)
    (kf_law_pool : PySem.W.keepIn K (.ref f_law_pool) = true)
    (af_law_take : PySem.W.nsIn K mainGlobals "_law_take" = some (some (.ref f_law_take)))
    (lf_law_take : K.lookup f_law_take = some ⟨oc1, od1, .func (PySem.W.fnOf "_law_take" "_law_take" (defArgs s_law_take) (defBody s_law_take) (defScope s_law_take) .none kV1 dc1 pm1 an1 cd1 ct1), sl1⟩)
    (cf_law_take : PySem.W.codeIn K cd1 "_law_take" = true)
    (kf_law_take : PySem.W.keepIn K (.ref f_law_take) = true)
    (af_checked_washings : PySem.W.nsIn K mainGlobals "_checked_washings" = some (some (.ref f_checked_washings)))
    (lf_checked_washings : K.lookup f_checked_washings = some ⟨oc2, od2, .func (PySem.W.fnOf "_checked_washings" "_checked_washings" (defArgs s_checked_washings) (defBody s_checked_washings) (defScope s_checked_washings) .none kV2 dc2 pm2 an2 cd2 ct2), sl2⟩)
    (cf_checked_washings : PySem.W.codeIn K cd2 "_checked_washings" = true)
    (kf_checked_washings : PySem.W.keepIn K (.ref f_checked_washings) = true)
    (af_Room_init : PySem.W.findIn K (.ref C_Room) "__init__" = some (some (.ref f_Room_init)))
    (if_Room_init : PySem.W.isFn K (.ref f_Room_init) = true)
    (mkC_Room : PySem.W.makesIn K C_Room = true)
    (kcC_Room : PySem.W.keepIn K (.ref C_Room) = true)
    (lf_Room_init : K.lookup f_Room_init = some ⟨oc3, od3, .func (PySem.W.fnOf "__init__" "Room.__init__" (defArgs s_Room_init) (defBody s_Room_init) (defScope s_Room_init) .none kV3 dc3 pm3 an3 cd3 ct3), sl3⟩)
    (cf_Room_init : PySem.W.codeIn K cd3 "Room.__init__" = true)
    (kf_Room_init : PySem.W.keepIn K (.ref f_Room_init) = true)
    (af_law_made : PySem.W.nsIn K mainGlobals "_law_made" = some (some (.ref f_law_made)))
    (lf_law_made : K.lookup f_law_made = some ⟨oc4, od4, .func (PySem.W.fnOf "_law_made" "_law_made" (defArgs s_law_made) (defBody s_law_made) (defScope s_law_made) .none kV4 dc4 pm4 an4 cd4 ct4), sl4⟩)
    (cf_law_made : PySem.W.codeIn K cd4 "_law_made" = true)
    (kf_law_made : PySem.W.keepIn K (.ref f_law_made) = true)
    (aP_Room_pieces : PySem.W.findIn K (.ref C_Room) "pieces" = some (some (.ref P_Room_pieces)))
    (gP_Room_pieces : PySem.W.specialIn K (.ref P_Room_pieces) "__get__" = some (some (.builtin "property.__get__")))
    (tP_Room_pieces : PySem.W.takesIn K (.ref P_Room_pieces) = some true)
    (rP_Room_pieces : PySem.W.recIn K P_Room_pieces "property" = some (.ref f_Room_pieces :: rest_P_Room_pieces))
    (lf_Room_pieces : K.lookup f_Room_pieces = some ⟨oc5, od5, .func (PySem.W.fnOf "pieces" "Room.pieces" (defArgs s_Room_pieces) (defBody s_Room_pieces) (defScope s_Room_pieces) .none kV5 dc5 pm5 an5 cd5 ct5), sl5⟩)
    (cf_Room_pieces : PySem.W.codeIn K cd5 "Room.pieces" = true)
    (kf_Room_pieces : PySem.W.keepIn K (.ref f_Room_pieces) = true)
    (af_law_whole : PySem.W.nsIn K mainGlobals "_law_whole" = some (some (.ref f_law_whole)))
    (lf_law_whole : K.lookup f_law_whole = some ⟨oc6, od6, .func (PySem.W.fnOf "_law_whole" "_law_whole" (defArgs s_law_whole) (defBody s_law_whole) (defScope s_law_whole) .none kV6 dc6 pm6 an6 cd6 ct6), sl6⟩)
    (cf_law_whole : PySem.W.codeIn K cd6 "_law_whole" = true)
    (kf_law_whole : PySem.W.keepIn K (.ref f_law_whole) = true)
    (af_Room__check_bolt : PySem.W.findIn K (.ref C_Room) "_check_bolt" = some (some (.ref f_Room__check_bolt)))
    (if_Room__check_bolt : PySem.W.isFn K (.ref f_Room__check_bolt) = true)
    (lf_Room__check_bolt : K.lookup f_Room__check_bolt = some ⟨oc7, od7, .func (PySem.W.fnOf "_check_bolt" "Room._check_bolt" (defArgs s_Room__check_bolt) (defBody s_Room__check_bolt) (defScope s_Room__check_bolt) .none kV7 dc7 pm7 an7 cd7 ct7), sl7⟩)
    (cf_Room__check_bolt : PySem.W.codeIn K cd7 "Room._check_bolt" = true)
    (kf_Room__check_bolt : PySem.W.keepIn K (.ref f_Room__check_bolt) = true)
    (af_Room_coming : PySem.W.findIn K (.ref C_Room) "coming" = some (some (.ref f_Room_coming)))
    (if_Room_coming : PySem.W.isFn K (.ref f_Room_coming) = true)
    (lf_Room_coming : K.lookup f_Room_coming = some ⟨oc8, od8, .func (PySem.W.fnOf "coming" "Room.coming" (defArgs s_Room_coming) (defBody s_Room_coming) (defScope s_Room_coming) .none kV8 dc8 pm8 an8 cd8 ct8), sl8⟩)
    (cf_Room_coming : PySem.W.codeIn K cd8 "Room.coming" = true)
    (kf_Room_coming : PySem.W.keepIn K (.ref f_Room_coming) = true)
    (af_law_no_bolt : PySem.W.nsIn K mainGlobals "_law_no_bolt" = some (some (.ref f_law_no_bolt)))
    (lf_law_no_bolt : K.lookup f_law_no_bolt = some ⟨oc9, od9, .func (PySem.W.fnOf "_law_no_bolt" "_law_no_bolt" (defArgs s_law_no_bolt) (defBody s_law_no_bolt) (defScope s_law_no_bolt) .none kV9 dc9 pm9 an9 cd9 ct9), sl9⟩)
    (cf_law_no_bolt : PySem.W.codeIn K cd9 "_law_no_bolt" = true)
    (kf_law_no_bolt : PySem.W.keepIn K (.ref f_law_no_bolt) = true)
    (af_Room_walk : PySem.W.findIn K (.ref C_Room) "walk" = some (some (.ref f_Room_walk)))
    (if_Room_walk : PySem.W.isFn K (.ref f_Room_walk) = true)
    (lf_Room_walk : K.lookup f_Room_walk = some ⟨oc10, od10, .func (PySem.W.fnOf "walk" "Room.walk" (defArgs s_Room_walk) (defBody s_Room_walk) (defScope s_Room_walk) .none kV10 dc10 pm10 an10 cd10 ct10), sl10⟩)
    (cf_Room_walk : PySem.W.codeIn K cd10 "Room.walk" = true)
    (kf_Room_walk : PySem.W.keepIn K (.ref f_Room_walk) = true)
    (af_law : PySem.W.nsIn K mainGlobals "law" = some (some (.ref f_law)))
    (lf_law : K.lookup f_law = some ⟨oc11, od11, .func (PySem.W.fnOf "law" "law" (defArgs s_law) (defBody s_law) (defScope s_law) .none kV11 dc11 pm11 an11 cd11 ct11), sl11⟩)
    (cf_law : PySem.W.codeIn K cd11 "law" = true)
    (kf_law : PySem.W.keepIn K (.ref f_law) = true) :
    ∃ fd : FuncData, (∀ (s : Shared) (v : Value), BindsTo s fd ⟨[v], []⟩ [("_law_script", v)]) ∧ ∀ base : Heap, K.In base → base.Ns mainGlobals mg → FnOk l.prog w K mg base CX0 5 fa fd ["_law_script"] (spLawB K) := by
  have e := hfa.symm.trans (PySem.W.mg_of X G af_law)
  cases e
  have Ff_law_pool := fun_mk (x := "_law_pool") (qual := "_law_pool") (st := s_law_pool) lf_law_pool cf_law_pool kf_law_pool
  have bf_law_pool := Ff_law_pool.binds (ps := ["_law_script"]) fun _ _ _ _ _ _ us hl => match us, hl with | [_], _ => rfl
  have Ff_law_take := fun_mk (x := "_law_take") (qual := "_law_take") (st := s_law_take) lf_law_take cf_law_take kf_law_take
  have bf_law_take := Ff_law_take.binds (ps := ["_law_pool_here", "_law_size"]) fun _ _ _ _ _ _ us hl => match us, hl with | [_, _], _ => rfl
  have Ff_checked_washings := fun_mk (x := "_checked_washings") (qual := "_checked_washings") (st := s_checked_washings) lf_checked_washings cf_checked_washings kf_checked_washings
  have bf_checked_washings := Ff_checked_washings.binds (ps := ["washings", "shares"]) fun _ _ _ _ _ _ us hl => match us, hl with | [_, _], _ => rfl
  have Ff_Room_init := fun_mk (x := "__init__") (qual := "Room.__init__") (st := s_Room_init) lf_Room_init cf_Room_init kf_Room_init
  have bf_Room_init := Ff_Room_init.binds (ps := ["self", "shares", "bolts"]) fun _ _ _ _ _ _ us hl => match us, hl with | [_, _, _], _ => rfl
  have Ff_law_made := fun_mk (x := "_law_made") (qual := "_law_made") (st := s_law_made) lf_law_made cf_law_made kf_law_made
  have bf_law_made := Ff_law_made.binds (ps := ["_law_many", "_law_bolts"]) fun _ _ _ _ _ _ us hl => match us, hl with | [_, _], _ => rfl
  have Ff_Room_pieces := fun_mk (x := "pieces") (qual := "Room.pieces") (st := s_Room_pieces) lf_Room_pieces cf_Room_pieces kf_Room_pieces
  have bf_Room_pieces := Ff_Room_pieces.binds (ps := ["self"]) fun _ _ _ _ _ _ us hl => match us, hl with | [_], _ => rfl
  have Ff_law_whole := fun_mk (x := "_law_whole") (qual := "_law_whole") (st := s_law_whole) lf_law_whole cf_law_whole kf_law_whole
  have bf_law_whole := Ff_law_whole.binds (ps := ["_law_x"]) fun _ _ _ _ _ _ us hl => match us, hl with | [_], _ => rfl
  have Ff_Room__check_bolt := fun_mk (x := "_check_bolt") (qual := "Room._check_bolt") (st := s_Room__check_bolt) lf_Room__check_bolt cf_Room__check_bolt kf_Room__check_bolt
  have bf_Room__check_bolt := Ff_Room__check_bolt.binds (ps := ["self", "bolt"]) fun _ _ _ _ _ _ us hl => match us, hl with | [_, _], _ => rfl
  have Ff_Room_coming := fun_mk (x := "coming") (qual := "Room.coming") (st := s_Room_coming) lf_Room_coming cf_Room_coming kf_Room_coming
  have bf_Room_coming := Ff_Room_coming.binds (ps := ["self", "bolt"]) fun _ _ _ _ _ _ us hl => match us, hl with | [_, _], _ => rfl
  have Ff_law_no_bolt := fun_mk (x := "_law_no_bolt") (qual := "_law_no_bolt") (st := s_law_no_bolt) lf_law_no_bolt cf_law_no_bolt kf_law_no_bolt
  have bf_law_no_bolt := Ff_law_no_bolt.binds (ps := ["_law_room", "_law_bolt"]) fun _ _ _ _ _ _ us hl => match us, hl with | [_, _], _ => rfl
  have Ff_Room_walk := fun_mk (x := "walk") (qual := "Room.walk") (st := s_Room_walk) lf_Room_walk cf_Room_walk kf_Room_walk
  have bf_Room_walk := Ff_Room_walk.binds (ps := ["self"]) fun _ _ _ _ _ _ us hl => match us, hl with | [_], _ => rfl
  have Ff_law := fun_mk (x := "law") (qual := "law") (st := s_law) lf_law cf_law kf_law
  have bf_law := Ff_law.binds (ps := ["_law_script"]) fun _ _ _ _ _ _ us hl => match us, hl with | [_], _ => rfl
  have TC_Room : Cls K C_Room := ⟨pgC_Room, hdC_Room, poC_Room, saC_Room⟩
  letI W_ : Wd := ⟨K, 0, 0, C_Room, 0, 0, fun e => match e with | .badBolt => E_BadBolt | .badShares => E_BadShares | .noBolt => E_NoBolt | _ => 0⟩
  have G_ : Gw K mg := ⟨rfl, nC_Room__cloth, nC_Room__shares, nC_Room__to_come, PySem.W.mg_none_of X G z_bool, PySem.W.mg_none_of X G z_int, PySem.W.mg_none_of X G z_isinstance, PySem.W.mg_none_of X G z_len, PySem.W.mg_none_of X G z_list, PySem.W.mg_none_of X G z_max, PySem.W.mg_none_of X G z_range, PySem.W.mg_none_of X G z_tuple, ⟨PySem.W.mg_of X G aC_Room, TC_Room, ⟨TC_Room, clC_Room, hnC_Room, tkC_Room, mrC_Room, kit_self⟩, ⟨rdC_Room, gaC_Room⟩⟩, ⟨xE_BadBolt, PySem.W.mg_of X G aE_BadBolt, kE_BadBolt, bE_BadBolt, tE_BadBolt⟩, ⟨xE_BadShares, PySem.W.mg_of X G aE_BadShares, kE_BadShares, bE_BadShares, tE_BadShares⟩, ⟨xE_NoBolt, PySem.W.mg_of X G aE_NoBolt, kE_NoBolt, bE_NoBolt, tE_NoBolt⟩, ⟨_, PySem.W.mg_of X G n_MOST_BOLTS⟩, ⟨_, PySem.W.mg_of X G n_MOST_SHARES⟩, ⟨_, PySem.W.mg_of X G n_MOST_WASHINGS⟩, t_int_bool, (fun e h => by cases e with | e c => cases c with | badBolt => exact exm_of bE_BadBolt iE_BadBolt tE_BadBolt zE_BadBoltE_BadBolt | badShares => exact exm_of bE_BadBolt iE_BadBolt tE_BadBolt zE_BadSharesE_BadBolt | noBolt => exact exm_of bE_BadBolt iE_BadBolt tE_BadBolt zE_NoBoltE_BadBolt | _ => cases h), (fun e h => by cases e with | e c => cases c with | badBolt => exact exm_of bE_BadShares iE_BadShares tE_BadShares zE_BadBoltE_BadShares | badShares => exact exm_of bE_BadShares iE_BadShares tE_BadShares zE_BadSharesE_BadShares | noBolt => exact exm_of bE_BadShares iE_BadShares tE_BadShares zE_NoBoltE_BadShares | _ => cases h), (fun e h => by cases e with | e c => cases c with | badBolt => exact exm_of bE_NoBolt iE_NoBolt tE_NoBolt zE_BadBoltE_NoBolt | badShares => exact exm_of bE_NoBolt iE_NoBolt tE_NoBolt zE_BadSharesE_NoBolt | noBolt => exact exm_of bE_NoBolt iE_NoBolt tE_NoBolt zE_NoBoltE_NoBolt | _ => cases h)⟩
  refine ⟨PySem.W.fnOf "law" "law" (defArgs s_law) (defBody s_law) (defScope s_law) .none kV11 dc11 pm11 an11 cd11 ct11, fun s v => .of_eq rfl, fun base _ _ => ?_⟩
  have d_law_pool : Def l.prog w K mg base 1 "_law_pool" ["_law_script"] sp_law_pool := ⟨f_law_pool, _, (ok_law_pool (P := l.prog) (w := w) (base := base) Ff_law_pool G_ ), PySem.W.mg_of X G af_law_pool, kf_law_pool, bf_law_pool⟩
  have d_law_take : Def l.prog w K mg base 1 "_law_take" ["_law_pool_here", "_law_size"] sp_law_take := ⟨f_law_take, _, (ok_law_take (P := l.prog) (w := w) (base := base) Ff_law_take G_ ), PySem.W.mg_of X G af_law_take, kf_law_take, bf_law_take⟩
  have d_checked_washings : Def l.prog w K mg base 1 "_checked_washings" ["washings", "shares"] sp_checked_washings := ⟨f_checked_washings, _, (ok_checked_washings (P := l.prog) (w := w) (base := base) Ff_checked_washings G_ ), PySem.W.mg_of X G af_checked_washings, kf_checked_washings, bf_checked_washings⟩
  have c_Room_init : Cdef l.prog w K mg base 2 Wd.room "Room" ["self", "shares", "bolts"] sp_Room_init := ⟨f_Room_init, _, ⟨mkC_Room, af_Room_init, if_Room_init, kcC_Room⟩, (ok_Room_init (P := l.prog) (w := w) (base := base) Ff_Room_init G_ d_checked_washings), PySem.W.mg_of X G aC_Room, bf_Room_init⟩
  have d_law_made : Def l.prog w K mg base 4 "_law_made" ["_law_many", "_law_bolts"] sp_law_made := ⟨f_law_made, _, (ok_law_made (P := l.prog) (w := w) (base := base) Ff_law_made G_ c_Room_init), PySem.W.mg_of X G af_law_made, kf_law_made, bf_law_made⟩
  have p_Room_pieces : Pdef l.prog w K mg base 1 Wd.room "pieces" ["self"] sp_Room_pieces := ⟨P_Room_pieces, f_Room_pieces, _, TC_Room, ⟨aP_Room_pieces, gP_Room_pieces, tP_Room_pieces, ⟨_, rP_Room_pieces⟩⟩, (ok_Room_pieces (P := l.prog) (w := w) (base := base) Ff_Room_pieces G_ ), bf_Room_pieces⟩
  have d_law_whole : Def l.prog w K mg base 1 "_law_whole" ["_law_x"] sp_law_whole := ⟨f_law_whole, _, (ok_law_whole (P := l.prog) (w := w) (base := base) Ff_law_whole G_ ), PySem.W.mg_of X G af_law_whole, kf_law_whole, bf_law_whole⟩
  have d_Room__check_bolt : Mdef l.prog w K mg base 1 Wd.room "_check_bolt" ["self", "bolt"] sp_Room__check_bolt := ⟨f_Room__check_bolt, _, TC_Room, ⟨af_Room__check_bolt, if_Room__check_bolt, kf_Room__check_bolt⟩, (ok_Room__check_bolt (P := l.prog) (w := w) (base := base) Ff_Room__check_bolt G_ ), bf_Room__check_bolt⟩
  have d_Room_coming : Mdef l.prog w K mg base 2 Wd.room "coming" ["self", "bolt"] sp_Room_coming := ⟨f_Room_coming, _, TC_Room, ⟨af_Room_coming, if_Room_coming, kf_Room_coming⟩, (ok_Room_coming (P := l.prog) (w := w) (base := base) Ff_Room_coming G_ d_Room__check_bolt), bf_Room_coming⟩
  have d_law_no_bolt : Def l.prog w K mg base 3 "_law_no_bolt" ["_law_room", "_law_bolt"] sp_law_no_bolt := ⟨f_law_no_bolt, _, (ok_law_no_bolt (P := l.prog) (w := w) (base := base) Ff_law_no_bolt G_ d_Room_coming), PySem.W.mg_of X G af_law_no_bolt, kf_law_no_bolt, bf_law_no_bolt⟩
  have g_Room_walk : Gmeth l.prog w K mg base 1 Wd.room "walk" ["self"] sp_Room_walk := ⟨f_Room_walk, _, TC_Room, ⟨af_Room_walk, if_Room_walk, kf_Room_walk⟩, (ok_Room_walk (P := l.prog) (w := w) (base := base) Ff_Room_walk G_ ), bf_Room_walk⟩
  exact law_endT rfl (ok_law (P := l.prog) (w := w) (base := base) Ff_law G_ d_law_pool d_law_take d_law_made p_Room_pieces d_law_whole d_Room_coming d_law_no_bolt g_Room_walk) law_true
theorem walk {l : PySem.W.OpenLaw} {q : Program} {loose : List Str} {XP : (Str → Option Value) → Heap → Prop} {YP : World → Heap → Prop} {d : DefRec} {K : Params → PySem.W.Frag} (hn : l.most = some 63) (hdf : d.params.defaults = [])
    (hY : ∀ (w : World) (h : Heap), YP w h → (K w.params).In h)
    (F : ∀ (w : World) (mg : Str → Option Value) (fa : Addr) (h : Heap), (K w.params).In h → h.Ns mainGlobals mg → mg d.name = some (.ref fa) →
      ∃ fd : FuncData, (∀ (s : Shared) (u : Value), BindsTo s fd ⟨[u], []⟩ [("_law_script", u)]) ∧ ∀ base : Heap, (K w.params).In base → base.Ns mainGlobals mg → FnOk l.prog w (K w.params) mg base CX0 5 fa fd ["_law_script"] (spLawB (K w.params))) :
    PySem.W.WalkO q loose XP YP l.row.toRowW d [] (fun f vs => PySem.call f vs) :=
  L2.walk_ofB (n := 63) (k := 5) (x := "_law_script") (CX := fun _ => CX0) (sp := fun w => spLawB (K w.params)) hn (by decide) hdf ⟨rfl, by decide, by decide⟩ hY F (fun _ _ a ns hl hb _ hS => ⟨a, ns, rfl, hS, hl, hb, fun _ => rfl⟩) fun _ _ _ _ _ z => z
end K2
open PySem PySem.W PyProof.Rows
set_option maxRecDepth 100000 in
set_option maxHeartbeats 0 in
theorem PySem.Challenge.cw_twicewashed_k11_room_refuses_bolts_holds : PySem.Challenge.rw_twicewashed_k11_room_refuses_bolts.Holds := by
  w_on; o_law; k_head; (case hw => w_witness2)
  k_fill
  refine K2.walk (l := PySem.Challenge.rw_twicewashed_k11_room_refuses_bolts) rfl rfl (fun w h Y => PySem.W.kIn_of Y) ?F
  case F =>
    intro w mg fa h KX G hmg
    refine' K2.all_mk KX G hmg ?aC_Room ?pgC_Room ?hdC_Room ?poC_Room ?saC_Room ?rdC_Room ?gaC_Room ?clC_Room ?hnC_Room ?tkC_Room ?mrC_Room ?nC_Room__cloth ?nC_Room__shares ?nC_Room__to_come ?z_bool ?z_int ?z_isinstance ?z_len ?z_list ?z_max ?z_range ?z_tuple ?aE_BadBolt ?xE_BadBolt ?kE_BadBolt ?bE_BadBolt ?tE_BadBolt ?aE_BadShares ?xE_BadShares ?kE_BadShares ?bE_BadShares ?tE_BadShares ?aE_NoBolt ?xE_NoBolt ?kE_NoBolt ?bE_NoBolt ?tE_NoBolt ?n_MOST_BOLTS ?n_MOST_SHARES ?n_MOST_WASHINGS ?t_int_bool ?iE_BadBolt ?zE_BadBoltE_BadBolt ?zE_BadSharesE_BadBolt ?zE_NoBoltE_BadBolt ?iE_BadShares ?zE_BadBoltE_BadShares ?zE_BadSharesE_BadShares ?zE_NoBoltE_BadShares ?iE_NoBolt ?zE_BadBoltE_NoBolt ?zE_BadSharesE_NoBolt ?zE_NoBoltE_NoBolt ?af_law_pool ?lf_law_pool ?cf_law_pool ?kf_law_pool ?af_law_take ?lf_law_take ?cf_law_take ?kf_law_take ?af_checked_washings ?lf_checked_washings ?cf_checked_washings ?kf_checked_washings ?af_Room_init ?if_Room_init ?mkC_Room ?kcC_Room ?lf_Room_init ?cf_Room_init ?kf_Room_init ?af_law_made ?lf_law_made ?cf_law_made ?kf_law_made ?aP_Room_pieces ?gP_Room_pieces ?tP_Room_pieces ?rP_Room_pieces ?lf_Room_pieces ?cf_Room_pieces ?kf_Room_pieces ?af_law_whole ?lf_law_whole ?cf_law_whole ?kf_law_whole ?af_Room__check_bolt ?if_Room__check_bolt ?lf_Room__check_bolt ?cf_Room__check_bolt ?kf_Room__check_bolt ?af_Room_coming ?if_Room_coming ?lf_Room_coming ?cf_Room_coming ?kf_Room_coming ?af_law_no_bolt ?lf_law_no_bolt ?cf_law_no_bolt ?kf_law_no_bolt ?af_Room_walk ?if_Room_walk ?lf_Room_walk ?cf_Room_walk ?kf_Room_walk ?af_law ?lf_law ?cf_law ?kf_law
    (case aC_Room => k_is)
    (case pgC_Room => k_is)
    (case hdC_Room => k_is)
    (case poC_Room => k_is)
    (case saC_Room => k_is)
    (case rdC_Room => k_is)
    (case gaC_Room => k_is)
    (case clC_Room => k_is)
    (case hnC_Room => k_is)
    (case tkC_Room => k_is)
    (case mrC_Room => k_is)
    (case nC_Room__cloth => k_is)
    (case nC_Room__shares => k_is)
    (case nC_Room__to_come => k_is)
    (case z_bool => k_is)
    (case z_int => k_is)
    (case z_isinstance => k_is)
    (case z_len => k_is)
    (case z_list => k_is)
    (case z_max => k_is)
    (case z_range => k_is)
    (case z_tuple => k_is)
    (case aE_BadBolt => k_is)
    (case xE_BadBolt => first | k_exc | k_is)
    (case kE_BadBolt => k_is)
    (case bE_BadBolt => k_is)
    (case tE_BadBolt => k_is)
    (case aE_BadShares => k_is)
    (case xE_BadShares => first | k_exc | k_is)
    (case kE_BadShares => k_is)
    (case bE_BadShares => k_is)
    (case tE_BadShares => k_is)
    (case aE_NoBolt => k_is)
    (case xE_NoBolt => first | k_exc | k_is)
    (case kE_NoBolt => k_is)
    (case bE_NoBolt => k_is)
    (case tE_NoBolt => k_is)
    (case n_MOST_BOLTS => k_is)
    (case n_MOST_SHARES => k_is)
    (case n_MOST_WASHINGS => k_is)
    (case t_int_bool => first | rfl | k_is)
    (case iE_BadBolt => k_is)
    (case zE_BadBoltE_BadBolt => first | rfl | k_is)
    (case zE_BadSharesE_BadBolt => first | rfl | k_is)
    (case zE_NoBoltE_BadBolt => first | rfl | k_is)
    (case iE_BadShares => k_is)
    (case zE_BadBoltE_BadShares => first | rfl | k_is)
    (case zE_BadSharesE_BadShares => first | rfl | k_is)
    (case zE_NoBoltE_BadShares => first | rfl | k_is)
    (case iE_NoBolt => k_is)
    (case zE_BadBoltE_NoBolt => first | rfl | k_is)
    (case zE_BadSharesE_NoBolt => first | rfl | k_is)
    (case zE_NoBoltE_NoBolt => first | rfl | k_is)
    (case af_law_pool => k_is)
    (case lf_law_pool => k_is)
    (case cf_law_pool => k_is)
    (case kf_law_pool => k_is)
    (case af_law_take => k_is)
    (case lf_law_take => k_is)
    (case cf_law_take => k_is)
    (case kf_law_take => k_is)
    (case af_checked_washings => k_is)
    (case lf_checked_washings => k_is)
    (case cf_checked_washings => k_is)
    (case kf_checked_washings => k_is)
    (case af_Room_init => k_is)
    (case if_Room_init => k_is)
    (case mkC_Room => k_is)
    (case kcC_Room => k_is)
    (case lf_Room_init => k_is)
    (case cf_Room_init => k_is)
    (case kf_Room_init => k_is)
    (case af_law_made => k_is)
    (case lf_law_made => k_is)
    (case cf_law_made => k_is)
    (case kf_law_made => k_is)
    (case aP_Room_pieces => k_is)
    (case gP_Room_pieces => k_is)
    (case tP_Room_pieces => k_is)
    (case rP_Room_pieces => k_is)
    (case lf_Room_pieces => k_is)
    (case cf_Room_pieces => k_is)
    (case kf_Room_pieces => k_is)
    (case af_law_whole => k_is)
    (case lf_law_whole => k_is)
    (case cf_law_whole => k_is)
    (case kf_law_whole => k_is)
    (case af_Room__check_bolt => k_is)
    (case if_Room__check_bolt => k_is)
    (case lf_Room__check_bolt => k_is)
    (case cf_Room__check_bolt => k_is)
    (case kf_Room__check_bolt => k_is)
    (case af_Room_coming => k_is)
    (case if_Room_coming => k_is)
    (case lf_Room_coming => k_is)
    (case cf_Room_coming => k_is)
    (case kf_Room_coming => k_is)
    (case af_law_no_bolt => k_is)
    (case lf_law_no_bolt => k_is)
    (case cf_law_no_bolt => k_is)
    (case kf_law_no_bolt => k_is)
    (case af_Room_walk => k_is)
    (case if_Room_walk => k_is)
    (case lf_Room_walk => k_is)
    (case cf_Room_walk => k_is)
    (case kf_Room_walk => k_is)
    (case af_law => k_is)
    (case lf_law => k_is)
    (case cf_law => k_is)
    (case kf_law => k_is)
