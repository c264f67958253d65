import PyProof.Rows.All
import Wide.All
import OpenK.AllK
import Wide.FinOn
import HandS.ForMost
import HandS.More
import HandS.Star
import HandS.IsInst
import HandS.TupAny
import HandS.Text
import HandS.Iter
import PySem.Challenge.RW_metorshut_k03_programs_declared
set_option Elab.async false
set_option linter.all false
set_option maxRecDepth 100000
set_option maxHeartbeats 4000000
/-! my own layer over the modules: what a reading asks, taken step by step; callees by name -/
namespace Zn
open PySem PySem.Spec PyProof.Rows L2

section
variable {σ : L2.St} {H : Hp} {K : PySem.W.Frag} {Q : VK} {ta tb te tl : TE} {t u c : TT} {D : Ends} {t1 t2 : TS} {g : TG} {i : Nat} {v x y : V} {r : R2} {tr : TA}
theorem r_var (h : σ[i]? = some (some v)) (q : Q v H) : tVar i σ H Q := ⟨v, h, q⟩
theorem r_c (q : Q v H) : tC v σ H Q := q
theorem r_op (q : ta σ H fun x H1 => tb σ H1 fun y H2 => r x y H2 Q) : tOp r ta tb σ H Q := q
theorem r_un {f : V → Hp → VK → Prop} (q : ta σ H fun x H1 => f x H1 Q) : tUn f ta σ H Q := q
theorem r_test {Q : Bool → Hp → Prop} (q : te σ H fun x H' => ∃ k, x = .bl k ∧ Q k H') : tTest te σ H Q := q
theorem r_B {Q : Bool → Hp → Prop} (q : te σ H fun x H' => ∃ k, x = .bl k ∧ Q k H') : tB te σ H Q := q
theorem r_bl {b : Bool} {R : Bool → Prop} (q : R b) : ∃ k, V.bl b = V.bl k ∧ R k := ⟨b, rfl, q⟩
theorem r_I0 {g : Int → Int → V} {i j : Int} (q : Q (g i j) H) : rI0 g (.int i) (.int j) H Q := ⟨i, j, rfl, rfl, q⟩
theorem r_I {C : Int → Int → Prop} {g : Int → Int → V} {i j : Int} (h : C i j) (q : Q (g i j) H) : rI C g (.int i) (.int j) H Q := ⟨i, j, rfl, rfl, h, q⟩
theorem r_U {g : Int → V} {i : Int} (q : Q (g i) H) : rU g (.int i) H Q := ⟨i, rfl, q⟩
theorem r_ipI {f : Int → Int → Int} {i j : Int} (q : Q (.int (f i j)) H) : ipI f (.int i) (.int j) H Q := ⟨i, j, rfl, rfl, q⟩
theorem r_eq (h : scal x y = true) (q : Q (.bl (decide (x = y))) H) : rEq x y H Q := ⟨h, q⟩
theorem r_ne (h : scal x y = true) (q : Q (.bl (!decide (x = y))) H) : rNe x y H Q := ⟨h, q⟩
theorem r_seq (q : t1 { D with nx := t2 D } σ H) : tSeq t1 t2 D σ H := q
theorem r_asg (q : te σ H fun x H1 => g x σ H1 D.nx) : tAsg te g D σ H := q
theorem r_gname {Q : L2.St → Hp → Prop} (q : Q (σ.set i (some v)) H) : gName i v σ H Q := q
theorem r_gsub {to ti : TE} {s : TSet} {Q : L2.St → Hp → Prop} (q : to σ H fun o H1 => ti σ H1 fun i H2 => s o i v H2 fun H3 => Q σ H3) : gSub to ti s v σ H Q := q
theorem r_setL {p : Addr} {xs : List V} {k : Int} {j : Nat} {Q : Hp → Prop} (h : H p = some (.lst xs)) (e : ixN xs.length k = some j) (q : Q (upd H p (.lst (xs.set j v)))) : rSetL (.ref p) (.int k) v H Q := ⟨p, xs, k, j, rfl, rfl, h, e, q⟩
theorem r_ret (q : te σ H D.rt) : tRet te D σ H := q
theorem r_next (q : D.nx σ H) : tNext D σ H := q
theorem r_drop (q : te σ H fun _ H1 => D.nx σ H1) : tDrop te D σ H := q
theorem r_ifs (q : c σ H fun b H1 => if b = true then t1 D σ H1 else t2 D σ H1) : tIfS c t1 t2 D σ H := q
theorem r_if (q : t σ H fun c H1 => if c = true then ta σ H1 Q else tb σ H1 Q) : tIf t ta tb σ H Q := q
theorem r_cons {Q : List V → Hp → Prop} (q : ta σ H fun x H1 => tr σ H1 fun xs H2 => Q (x :: xs) H2) : tCons ta tr σ H Q := q
theorem r_nil {Q : List V → Hp → Prop} (q : Q [] H) : tNil σ H Q := q
theorem r_CB {f : List V → Hp → VK → Prop} (q : tr σ H fun vs H1 => f vs H1 Q) : tCB f tr σ H Q := q
theorem r_and {Q : Bool → Hp → Prop} (q : t σ H fun c H1 => if c = true then u σ H1 Q else Q false H1) : tAnd t u σ H Q := q
theorem r_or {Q : Bool → Hp → Prop} (q : t σ H fun c H1 => if c = true then Q true H1 else u σ H1 Q) : tOr t u σ H Q := q
theorem r_not {Q : Bool → Hp → Prop} (q : t σ H fun c H1 => Q (!c) H1) : tNot t σ H Q := q
theorem r_notV {b : Bool} (q : ta σ H fun x H1 => ∃ c, x = .bl c ∧ Q (.bl (!c)) H1) : tNotV ta σ H Q := q
theorem r_andV (q : ta σ H fun x H1 => ∃ c, x = .bl c ∧ if c = true then tb σ H1 Q else Q (.bl false) H1) : tAndV ta tb σ H Q := q
theorem r_orV (q : ta σ H fun x H1 => ∃ c, x = .bl c ∧ if c = true then Q (.bl true) H1 else tb σ H1 Q) : tOrV ta tb σ H Q := q
theorem r_notV' (q : ta σ H fun x H1 => ∃ c, x = .bl c ∧ Q (.bl (!c)) H1) : tNotV ta σ H Q := q
theorem r_ixL {p : Addr} {xs : List V} {i : Int} (h : SqL K H p xs) (e : atI xs i = some v) (q : Q v H) : rIxL K (.ref p) (.int i) H Q := ⟨p, xs, i, v, rfl, rfl, h, e, q⟩
theorem r_ixT {p : Addr} {xs : List V} {i : Int} (h : SqT K H p xs) (e : atI xs i = some v) (q : Q v H) : rIxT K (.ref p) (.int i) H Q := ⟨p, xs, i, v, rfl, rfl, h, e, q⟩
theorem r_in {neg : Bool} {p : Addr} {xs : List V} (h : SqL K H p xs ∨ SqT K H p xs) (e1 : flatV x = true) (e2 : xs.all flatV = true) (q : Q (.bl (if neg then !inV x xs else inV x xs)) H) : rIn K neg x (.ref p) H Q := ⟨p, xs, rfl, h, e1, e2, q⟩
theorem r_tup {xs : List V} {R : VK} (h : xs.length ≤ sizeLine) (q : ∀ p, H p = none → R (.ref p) (upd H p (.tup xs))) : xs.length ≤ sizeLine ∧ ∀ p, H p = none → R (.ref p) (upd H p (.tup xs)) := ⟨h, q⟩
theorem r_tTup (q : tr σ H fun xs H1 => xs.length ≤ sizeLine ∧ ∀ p, H1 p = none → Q (.ref p) (upd H1 p (.tup xs))) : tTup tr σ H Q := q
theorem r_tLst (q : tr σ H fun xs H1 => xs.length ≤ sizeLine ∧ ∀ p, H1 p = none → Q (.ref p) (upd H1 p (.lst xs))) : tLst tr σ H Q := q
theorem r_one {i : Int} {R : Int → Prop} (q : R i) : ∃ j, [V.int i] = [V.int j] ∧ R j := ⟨i, rfl, q⟩
theorem r_int1 {i : Int} {R : Int → Prop} {B : Bool → Prop} (q : R i) : (∃ j, [V.int i] = [V.int j] ∧ R j) ∨ ∃ k, [V.int i] = [V.bl k] ∧ B k := .inl ⟨i, rfl, q⟩
theorem r_int1b {b : Bool} {R : Int → Prop} {B : Bool → Prop} (q : B b) : (∃ j, [V.bl b] = [V.int j] ∧ R j) ∨ ∃ k, [V.bl b] = [V.bl k] ∧ B k := .inr ⟨b, rfl, q⟩
theorem r_aug {ti : TIp} (h : σ[i]? = some (some v)) (q : te σ H fun y H1 => ti v y H1 fun z H2 => D.nx (σ.set i (some z)) H2) : tAug i te ti D σ H := ⟨v, h, q⟩
theorem r_augS {to ti : TE} {tget : V → V → Hp → VK → Prop} {tip : TIp} {tset : TSet} (q : to σ H fun o H1 => ti σ H1 fun i H2 => tget o i H2 fun x H3 => te σ H3 fun y H4 => tip x y H4 fun z H5 => tset o i z H5 fun H6 => D.nx σ H6) : tAugS to ti te tget tip tset D σ H := q
theorem r_BM {T : String} {f : V → List V → Hp → VK → Prop} (q : ta σ H fun x H1 => tyV K T x H1 ∧ tr σ H1 fun xs H2 => f x xs H2 Q) : tBM K T f ta tr σ H Q := q
theorem r_BM0 {T : String} {f : V → List V → Hp → VK → Prop} (q : ta σ H fun x H1 => tyV K T x H1 ∧ f x [] H1 Q) : tBM0 K T f ta σ H Q := q
theorem r_tupd {a : Addr} {xs : List V} {n : Nat} {ts : TGs} {Q : L2.St → Hp → Prop} (h : SqT K H a xs) (e : xs.length = n) (q : ts xs σ H Q) : gTup K n ts (.ref a) σ H Q := ⟨a, xs, rfl, h, e, q⟩
theorem r_gcons {ts : TGs} {vs : List V} {Q : L2.St → Hp → Prop} (q : g v σ H fun σ' H' => ts vs σ' H' Q) : gCons g ts (v :: vs) σ H Q := ⟨v, vs, rfl, q⟩
theorem r_gnil {Q : L2.St → Hp → Prop} (q : Q σ H) : gNil [] σ H Q := ⟨rfl, q⟩
theorem r_par {j : Nat} {ta : TA} (q : ta σ H fun vs H1 => ∃ v w, vs = [v, w] ∧ D.nx ((σ.set i (some v)).set j (some w)) H1) : tPar i j ta D σ H := q
theorem r_len {p : Addr} {xs : List V} {R : List V → Prop} (h : SqL K H p xs ∨ SqT K H p xs) (q : R xs) : ∃ p' ys, [V.ref p] = [V.ref p'] ∧ (SqL K H p' ys ∨ SqT K H p' ys) ∧ R ys := ⟨p, xs, rfl, h, q⟩
theorem r_yes {Q : Bool → Hp → Prop} (q : Q true H) : tYes σ H Q := q
theorem sl_of {a : Addr} {xs : List V} (h : H a = some (.lst xs)) : SqL K H a xs := .inl (.inl h)
theorem st_of {a : Addr} {xs : List V} (h : H a = some (.tup xs)) : SqT K H a xs := .inl (.inl h)
end
theorem same_new' {H : Hp} {p : Addr} {o : HO} (h : H p = none) : Same H (upd H p o) := fun b x e => by
  rw [upd_ne (ne_of_none e h)]
  exact e
theorem r_iteT {c : Prop} [Decidable c] {A B : Prop} (h : c) (q : A) : if c then A else B := by
  rw [if_pos h]
  exact q
theorem r_iteF {c : Prop} [Decidable c] {A B : Prop} (h : ¬ c) (q : B) : if c then A else B := by
  rw [if_neg h]
  exact q
section
variable {σ : L2.St} {H : Hp} {K : PySem.W.Frag} {Q : VK} {ta tb te tl : TE} {t u c : TT} {D : Ends} {t1 t2 : TS} {g : TG} {i : Nat} {v x y : V} {r : R2} {tr : TA}
theorem r_tupN {xs : List V} {R : V → Hp → Prop} (h : xs.length ≤ sizeLine) (q : ∀ p, H p = none → R (.ref p) (upd H p (.tup xs))) : xs.length ≤ sizeLine ∧ ∀ p, H p = none → R (.ref p) (upd H p (.tup xs)) := ⟨h, q⟩
theorem r_two {v w : V} {R : V → V → Prop} (q : R v w) : ∃ a b, [v, w] = [a, b] ∧ R a b := ⟨v, w, rfl, q⟩
theorem r_twoI {i j : Int} {R : Int → Int → Prop} (q : R i j) : ∃ a b, [V.int i, V.int j] = [V.int a, V.int b] ∧ R a b := ⟨i, j, rfl, q⟩
theorem r_for {wi : TI} {tb : TS} (q : wi σ H fun J H1 => ∃ W : Nat → Nat → L2.St → Hp → Prop, (∃ m, W 0 m σ H1) ∧ ∀ i m σ H, W i m σ H → (J.stop i H ∧ D.nx σ H) ∨ (J.go i H ∧ ∃ N : L2.St → Hp → Prop, (∀ σ' H', N σ' H' → ∃ m', m' < m ∧ W (i + 1) m' σ' H') ∧ ∀ x H', J.yld i H x H' → g x σ H' fun σ2 H2 => tb { D with nx := N, ct := N, bk := D.nx } σ2 H2)) : tFor wi g tb D σ H := q
theorem r_rng1 {R : It → Hp → Prop} (q : tr σ H fun vs H1 => ∃ j : Int, vs = [.int j] ∧ -(2 ^ 62) ≤ j ∧ j < 2 ^ 62 ∧ R (Itr 0 j.toNat) H1) : iRng1 tr σ H R := q
theorem r_rng {j : Int} {R : Int → Prop} (h1 : -(2 ^ 62) ≤ j) (h2 : j < 2 ^ 62) (q : R j) : ∃ k : Int, [V.int j] = [V.int k] ∧ -(2 ^ 62) ≤ k ∧ k < 2 ^ 62 ∧ R k := ⟨j, rfl, h1, h2, q⟩
theorem r_lc {wi : TI} {te : TE} {vs : List Nat}
    (q : wi σ H fun J H1 => ∀ A, H1 A = none → ∃ Z : Nat → Nat → Hp → Prop, (∃ m, Z 0 m (upd H1 A (.lst [])))
      ∧ ∀ j m H, Z j m H → (J.stop j H ∧ Q (.ref A) H)
        ∨ (J.go j H ∧ ∃ Y : Hp → Prop, (∀ H', Y H' → ∃ m', m' < m ∧ Z (j + 1) m' H')
          ∧ ∀ x H', J.yld j H x H' → g x (wipe σ vs) H' fun σ2 H2 => wipe σ2 vs = wipe σ vs
            ∧ t σ2 H2 fun b H3 =>
              if b = true then te σ2 H3 fun y H4 => ∃ l, H4 A = some (.lst l) ∧ l.length < sizeLine ∧ Y (upd H4 A (.lst (l ++ [y])))
              else Y H3)) : tLc wi g t te vs σ H Q := q
theorem r_ilist {R : It → Hp → Prop} (q : tl σ H fun x H1 => ∃ a, x = .ref a ∧ (∃ xs, SqL K H1 a xs) ∧ R (Itl K a) H1) : iList K tl σ H R := q
theorem r_itup {R : It → Hp → Prop} (q : tl σ H fun x H1 => ∃ a, x = .ref a ∧ (∃ xs, SqT K H1 a xs) ∧ R (Itt K a) H1) : iTup K tl σ H R := q
theorem r_ref {p : Addr} {A R : Addr → Prop} (h : A p) (q : R p) : ∃ a, V.ref p = V.ref a ∧ A a ∧ R a := ⟨p, rfl, h, q⟩
theorem r_tyL {p : Addr} {xs : List V} {R : Prop} (h : SqL K H p xs) (q : R) : tyV K "list" (.ref p) H ∧ R := ⟨.inl ⟨rfl, _, h⟩, q⟩
theorem r_tyS {s : Str} {R : Prop} (q : R) : tyV K "str" (.str s) H ∧ R := ⟨rfl, q⟩
theorem r_append {p : Addr} {xs : List V} {y : V} (h : H p = some (.lst xs)) (e : xs.length < sizeLine) (q : Q .non (upd H p (.lst (xs ++ [y])))) : rAppend (.ref p) [y] H Q := ⟨p, xs, y, rfl, rfl, h, e, q⟩
theorem r_extend {p b : Addr} {xs zs : List V} (h : H p = some (.lst xs)) (hb : H b = some (.lst zs)) (e : xs.length + zs.length ≤ sizeLine) (q : Q .non (upd H p (.lst (xs ++ zs)))) : rExtend (.ref p) [.ref b] H Q := ⟨p, b, xs, zs, rfl, rfl, h, hb, e, q⟩
theorem r_popAt {p : Addr} {xs : List V} {i : Int} {y : V} (h : H p = some (.lst xs)) (h0 : 0 ≤ i) (h1 : i < (xs.length : Int)) (h2 : xs.length ≤ 1000000) (hy : xs[i.toNat]? = some y) (q : Q y (upd H p (.lst (xs.eraseIdx i.toNat)))) : rPopAt (.ref p) [.int i] H Q :=
  ⟨p, xs, i, i.toNat, y, rfl, rfl, h, by omega, by omega, seqIndex_of h0 h1, hy, q⟩
theorem r_cat {p b : Addr} {xs zs : List V} (h : H p = some (.lst xs)) (hb : H b = some (.lst zs)) (e : xs.length + zs.length ≤ sizeLine) (q : ∀ c, H c = none → Q (.ref c) (upd H c (.lst (xs ++ zs)))) : rCat (.ref p) (.ref b) H Q := ⟨p, b, xs, zs, rfl, rfl, h, hb, e, q⟩
theorem r_isi {x c : V} {t u : Value} {b : Bool} (hc : ClsV c u) (ht : TyX K H x t) (hk : PySem.W.kitOne K t u = some b) (q : Q (.bl b) H) : rIsi K [x, c] H Q := ⟨x, c, t, u, b, rfl, hc, ht, hk, q⟩
theorem r_catA {p b : Addr} {xs ys : List V} (h1 : SqT K H p xs) (h2 : SqT K H b ys) (q : rCatA K (.ref p) (.ref b) H Q) : rCatA K (.ref p) (.ref b) H Q := q
theorem at_new {p a : Addr} {o u : HO} (hp : H p = none) (h : H a = some u) : upd H p o a = some u := same_new' hp _ _ h
theorem r_listOf {p : Addr} {xs : List V} {R : V → Hp → Prop} (h : SqL K H p xs ∨ SqT K H p xs) (q : ∀ l, H l = none → R (.ref l) (upd H l (.lst xs))) : ∃ p' ys, [V.ref p] = [V.ref p'] ∧ (SqL K H p' ys ∨ SqT K H p' ys) ∧ ∀ l, H l = none → R (.ref l) (upd H l (.lst ys)) := ⟨p, xs, rfl, h, q⟩
theorem r_slL {p : Addr} {xs : List V} {lo hi : Option Int} (h : SqL K H p xs) (q : ∀ l, H l = none → Q (.ref l) (upd H l (.lst (cutV xs lo hi)))) : rSlL K (.ref p) lo hi H Q := ⟨p, xs, rfl, h, q⟩
theorem r_sl {f : V → Option Int → Option Int → Hp → VK → Prop} {tlo thi : TO} (q : te σ H fun x H1 => tlo σ H1 fun l H2 => thi σ H2 fun u H3 => f x l u H3 Q) : tSl f te tlo thi σ H Q := q
theorem r_noP {Q : Option Int → Hp → Prop} (q : Q none H) : tNoPart σ H Q := q
theorem r_part {Q : Option Int → Hp → Prop} (q : te σ H fun x H1 => ∃ i, x = .int i ∧ Q (some i) H1) : tPart te σ H Q := q
theorem r_eI {i : Int} {R : Int → Prop} (q : R i) : ∃ j, V.int i = V.int j ∧ R j := ⟨i, rfl, q⟩
end
theorem len_ok {n : Nat} (h : n ≤ 100000) : n ≤ sizeLine := Nat.le_trans h (by decide)
theorem r_al {n : Nat} {H : Hp} {R : Addr → Prop} (h : n ≤ sizeLine) (q : ∀ p, H p = none → R p) : n ≤ sizeLine ∧ ∀ p, H p = none → R p := ⟨h, q⟩
theorem pow2_pos (n : Nat) : (0 : Int) < 1 * 2 ^ n := by
  rw [Int.one_mul]
  exact Int.pow_pos (by decide)
theorem mulR {i j : Int} (h1 : -(2 ^ 64) < j) (h2 : j < 2 ^ 64) : CMul i j := .inr ⟨h1, h2⟩
theorem mulL {i j : Int} (h1 : -(2 ^ 64) < i) (h2 : i < 2 ^ 64) : CMul i j := .inl ⟨h1, h2⟩

/-! ### loops, what follows and what is handed back told apart -/
section
variable {K : PySem.W.Frag} {a : Addr} {xs : List V} {g : TG} {tb : TS} {nx : L2.St → Hp → Prop} {rt : VK} {σ : L2.St} {H : Hp}
theorem fl (Pv : Nat → L2.St → Hp → Prop) (h0 : Pv 0 σ H) (hl : ∀ i σ H, i ≤ xs.length → Pv i σ H → SqL K H a xs)
    (hs : ∀ i x σ H, xs[i]? = some x → Pv i σ H → g x σ H fun σ2 H2 => tb { nx := Pv (i + 1), rt := rt, bk := nx, ct := Pv (i + 1) } σ2 H2) (hd : ∀ σ H, Pv xs.length σ H → nx σ H) :
    ∃ W : Nat → Nat → L2.St → Hp → Prop, (∃ m, W 0 m σ H) ∧ ∀ i m σ H, W i m σ H →
      ((Itl K a).stop i H ∧ nx σ H) ∨ ((Itl K a).go i H ∧ ∃ N : L2.St → Hp → Prop, (∀ σ' H', N σ' H' → ∃ m', m' < m ∧ W (i + 1) m' σ' H') ∧ ∀ x H', (Itl K a).yld i H x H' → g x σ H' fun σ2 H2 => tb { nx := N, rt := rt, bk := nx, ct := N } σ2 H2) :=
  for_list (D := { nx := nx, rt := rt, bk := nx, ct := nx }) Pv h0 hl hs hd
theorem ft (Pv : Nat → L2.St → Hp → Prop) (h0 : Pv 0 σ H) (hl : ∀ i σ H, i ≤ xs.length → Pv i σ H → SqT K H a xs)
    (hs : ∀ i x σ H, xs[i]? = some x → Pv i σ H → g x σ H fun σ2 H2 => tb { nx := Pv (i + 1), rt := rt, bk := nx, ct := Pv (i + 1) } σ2 H2) (hd : ∀ σ H, Pv xs.length σ H → nx σ H) :
    ∃ W : Nat → Nat → L2.St → Hp → Prop, (∃ m, W 0 m σ H) ∧ ∀ i m σ H, W i m σ H →
      ((Itt K a).stop i H ∧ nx σ H) ∨ ((Itt K a).go i H ∧ ∃ N : L2.St → Hp → Prop, (∀ σ' H', N σ' H' → ∃ m', m' < m ∧ W (i + 1) m' σ' H') ∧ ∀ x H', (Itt K a).yld i H x H' → g x σ H' fun σ2 H2 => tb { nx := N, rt := rt, bk := nx, ct := N } σ2 H2) :=
  for_tup (D := { nx := nx, rt := rt, bk := nx, ct := nx }) Pv h0 hl hs hd
theorem fr {lo : Int} {n : Nat} (Pv : Nat → L2.St → Hp → Prop) (h0 : Pv 0 σ H)
    (hs : ∀ i σ H, i < n → Pv i σ H → g (.int (lo + i)) σ H fun σ2 H2 => tb { nx := Pv (i + 1), rt := rt, bk := nx, ct := Pv (i + 1) } σ2 H2) (hd : ∀ σ H, Pv n σ H → nx σ H) :
    ∃ W : Nat → Nat → L2.St → Hp → Prop, (∃ m, W 0 m σ H) ∧ ∀ i m σ H, W i m σ H →
      ((Itr lo n).stop i H ∧ nx σ H) ∨ ((Itr lo n).go i H ∧ ∃ N : L2.St → Hp → Prop, (∀ σ' H', N σ' H' → ∃ m', m' < m ∧ W (i + 1) m' σ' H') ∧ ∀ x H', (Itr lo n).yld i H x H' → g x σ H' fun σ2 H2 => tb { nx := N, rt := rt, bk := nx, ct := N } σ2 H2) :=
  for_range (D := { nx := nx, rt := rt, bk := nx, ct := nx }) Pv h0 hs hd
end
/-! ### lists of any values read by a written place -/
theorem atI_lt {xs : List V} {i : Int} {v : V} {j : Nat} (e : i = (j : Int)) (h : xs[j]? = some v) : atI xs i = some v := by
  rw [e]
  exact atI_nat h
/-- o[i] of a list, for o[i] op= e -/
theorem pget_list {X : Cx} : PGet X (rIxL X.K) := by
  intro pins s σ H o i ov iv Q I ro ri h
  obtain ⟨p, xs, k, z, rfl, rfl, hq, he, q⟩ := h
  cases ro
  obtain ⟨t, rfl⟩ := ri
  obtain ⟨its, r, pl, hz⟩ := I.list hq
  obtain ⟨j, h1, h2, h3, h4, h5⟩ := atI_get he
  obtain ⟨w, ew, rw'⟩ := r.get h2
  have hl := r.length
  have hn := line63
  have fin : EP X pins σ Q w s := ⟨z, H, I, rw', q⟩
  by_cases h0 : 0 ≤ k
  · have hj : k.toNat = j := by
      rw [seqIndex_of h0 h5] at h1
      exact Option.some.inj h1
    exact wpAny_getItem_list pl.isList h0 (by omega) (by rw [hj]; simpa using ew) fin
  · have hj : (k + (its.toArray.size : Int)).toNat = j := by
      rw [seqIndex_neg (by omega) h4] at h1
      rw [List.size_toArray, ← hl]
      exact Option.some.inj h1
    exact wpAny_getItem_list_neg pl.isList (by omega) (by rw [List.size_toArray] <;> omega) (by omega) (by rw [hj]; simpa using ew) fin

/-! ### a def of the module, by its name -/
def Cal (P : Program) (w : World) (K : PySem.W.Frag) (mg : Str → Option Value) (base : Heap) (x : Str) (k : Nat) (sp : Sp) : Prop :=
  ∃ f, mg x = some (.ref f) ∧ FnR P w K mg base CX0 k f sp ∧ PySem.W.keepIn K (.ref f) = true
section
variable {P : Program} {w : World} {K : PySem.W.Frag} {mg : Str → Option Value} {base : Heap}
def tCal (sp : Sp) (t : TA) : TE := fun σ H Q => t σ H fun vs H1 => sp vs H1 Q E0
theorem pe_cal {X : Cx} {x : Str} {k : Nat} {sp : Sp} {e : Expr} {es : List Expr} {t : TA} {p pos : Pos} (C : Cal X.prog X.w X.K X.mg X.base x k sp) (hr : Room k X.A) (hg : Gl X x) (ha : PA X (e :: es) t)
    (hdb : (x == ("__debug__" : Str)) = false := by decide) (he : starEach (e :: es) X.env = (false, eval e X.env) :: starEach es X.env := by rfl)
    (hpl : (backTo pos (starEach es X.env)).any (·.1) = false := by rfl) : PE X (.Call (.Name x p) (e :: es) [] pos) (tCal sp t) := by
  obtain ⟨f, hm, F, hk⟩ := C
  refine ⟨fun pins s σ H Q I h => ?_⟩
  refine wpAny_Call_Name_kw (ld_glob I hg hm ?_ hdb)
  refine PySem.W.callWith_K (h₀ := X.base) I.ok.mod.kin hk (thn (ha.run pos pins s σ H _ I h) fun us s1 ⟨vs, H1, I1, r, q⟩ => ⟨I1.kIn, ?_⟩) he hpl
  exact wpAny_call (run_fnR F hr pass0 I1 r q)
theorem pe_cal0 {X : Cx} {x : Str} {k : Nat} {sp : Sp} {p pos : Pos} (C : Cal X.prog X.w X.K X.mg X.base x k sp) (hr : Room k X.A) (hg : Gl X x)
    (hdb : (x == ("__debug__" : Str)) = false := by decide) : PE X (.Call (.Name x p) [] [] pos) (tCal sp tNil) := by
  obtain ⟨f, hm, F, hk⟩ := C
  refine ⟨fun pins s σ H Q I h => ?_⟩
  refine wpAny_Call_Name_kw (ld_glob I hg hm ?_ hdb)
  exact PySem.W.callWith_K0 I.kIn hk (wpAny_call (run_fnR (us := []) F hr pass0 I .nil h))
theorem r_cal {sp : Sp} {t : TA} {σ : L2.St} {H : Hp} {Q : VK} (q : t σ H fun vs H1 => sp vs H1 Q E0) : tCal sp t σ H Q := q
/-- from a def of the text to its call -/
theorem cal_of {x : Str} {st : Stmt} {f : Addr} {fd : FuncData} {N ps : List Str} {k : Nat} {sp : Sp} (hm : mg x = some (.ref f)) (F : Fun K x x st f fd)
    (hb : ∀ (kV doc pm : Value) (an : Option Addr) (cdv ct : Value) (us : List Value), us.length = ps.length → bindArgs (PySem.W.fnOf x x (defArgs st) (defBody st) (defScope st) .none kV doc pm an cdv ct) ⟨us, []⟩ = pure (ps.zip us))
    (G : FnOk P w K mg base CX0 k f fd ps sp) : Cal P w K mg base x k sp := by
  refine ⟨f, hm, ?_, F.kp⟩
  refine (G.raw (F.binds hb) .nil).imp fun vs H Q E h => ?_
  show sp (vs ++ []) H Q E
  rw [List.append_nil]
  exact h
end
/-! ### heaps -/
theorem same_new {H : Hp} {p : Addr} {o : HO} (h : H p = none) : Same H (upd H p o) := fun b x e => by
  rw [upd_ne (ne_of_none e h)]
  exact e
/-- all but what stands at d is as it was -/
def Keep (d : Addr) (H H' : Hp) : Prop := ∀ b o, b ≠ d → H b = some o → H' b = some o
theorem Keep.refl (d : Addr) (H : Hp) : Keep d H H := fun _ _ _ h => h
theorem Keep.trans {d : Addr} {H H1 H2 : Hp} (a : Keep d H H1) (b : Keep d H1 H2) : Keep d H H2 := fun c o n h => b c o n (a c o n h)
theorem Same.keep {d : Addr} {H H1 : Hp} (a : Same H H1) : Keep d H H1 := fun c o _ h => a c o h
theorem keep_upd {d : Addr} {H : Hp} {o : HO} : Keep d H (upd H d o) := fun b x n e => by
  rw [upd_ne n]
  exact e
theorem Keep.seq {K : PySem.W.Frag} {d : Addr} {H H' : Hp} {a : Addr} {xs : List V} (e : Keep d H H') (n : a ≠ d) (h : SqL K H a xs) : SqL K H' a xs := by
  rcases h with (h | ⟨o, h⟩) | h
  · exact .inl (.inl (e _ _ n h))
  · exact .inl (.inr ⟨o, e _ _ n h⟩)
  · exact .inr h
end Zn
namespace Zn
open PySem
def topS (i : Nat) : Stmt := PySem.Challenge.pw_metorshut_k03_programs_declared.main.body.getD i (.Pass ⟨0, 0, 0, 0⟩)
end Zn
local macro_rules | `(tactic| walk_at "fd") => `(tactic| (repeat (first | assumption | exact L2.upd_same | refine' Zn.at_new (by assumption) ?_)))
local macro_rules | `(tactic| walk_at "sm") => `(tactic| (repeat (first | assumption | exact L2.Same.refl _ | refine L2.Same.trans ?_ (Zn.same_new (by assumption)))))

local macro_rules | `(tactic| walk_at "rd1") => `(tactic| first
  | (with_reducible refine Zn.r_seq ?_)
  | (with_reducible refine Zn.r_asg ?_)
  | (with_reducible refine Zn.r_ret ?_)
  | (with_reducible refine Zn.r_ifs ?_)
  | (with_reducible refine Zn.r_test ?_)
  | (with_reducible refine Zn.r_op ?_)
  | ((with_reducible refine' Zn.r_var ?hv ?_); (case hv => exact rfl))
  | (with_reducible refine Zn.r_c ?_)
  | (with_reducible refine Zn.r_gname ?_)
  | (with_reducible refine Zn.r_I0 ?_)
  | (with_reducible refine Zn.r_bl ?_)
  | ((with_reducible refine Zn.r_eq ?hs ?_); (case hs => exact rfl))
  | ((with_reducible refine Zn.r_ne ?hs ?_); (case hs => exact rfl))
  | (with_reducible refine Zn.r_CB ?_)
  | (with_reducible refine Zn.r_cal ?_)
  | (with_reducible refine Zn.r_cons ?_)
  | (with_reducible refine Zn.r_nil ?_)
  | (with_reducible refine Zn.r_tTup ?_)
  | (with_reducible refine Zn.r_tLst ?_)
  | (with_reducible refine Zn.r_B ?_)
  | (with_reducible refine Zn.r_if ?_)
  | (with_reducible refine Zn.r_un ?_)
  | (with_reducible refine Zn.r_U ?_)
  | (with_reducible refine Zn.r_int1 ?_)
  | (with_reducible refine Zn.r_int1b ?_)
  | (with_reducible refine Zn.r_one ?_)
  | (with_reducible refine Zn.r_gsub ?_)
  | ((with_reducible refine' Zn.r_aug ?hv ?_); (case hv => exact rfl))
  | (with_reducible refine Zn.r_augS ?_)
  | (with_reducible refine Zn.r_ipI ?_)
  | (with_reducible refine Zn.r_and ?_)
  | (with_reducible refine Zn.r_or ?_)
  | (with_reducible refine Zn.r_not ?_)
  | (with_reducible refine Zn.r_andV ?_)
  | (with_reducible refine Zn.r_orV ?_)
  | (with_reducible refine Zn.r_notV' ?_)
  | (with_reducible refine Zn.r_BM ?_)
  | (with_reducible refine Zn.r_BM0 ?_)
  | (with_reducible refine Zn.r_par ?_)
  | (with_reducible refine Zn.r_gcons ?_)
  | (with_reducible refine Zn.r_gnil ?_)
  | (with_reducible refine Zn.r_drop ?_)
  | (with_reducible refine Zn.r_yes ?_)
  | ((with_reducible refine' Zn.r_len ?h ?_); (case h => first | exact .inl (Zn.sl_of (by assumption)) | exact .inr (Zn.st_of (by assumption)) | exact .inl (by assumption) | exact .inr (by assumption)))
  | (with_reducible refine Zn.r_for ?_)
  | (with_reducible refine Zn.r_lc ?_)
  | (with_reducible refine Zn.r_rng1 ?_)
  | (with_reducible refine Zn.r_ilist ?_)
  | (with_reducible refine Zn.r_itup ?_)
  | (with_reducible refine Zn.r_two ?_)
  | (with_reducible refine Zn.r_twoI ?_)
  | (with_reducible refine Zn.r_sl ?_)
  | (with_reducible refine Zn.r_noP ?_)
  | (with_reducible refine Zn.r_part ?_)
  | (with_reducible refine Zn.r_eI ?_)
  | (with_reducible refine Zn.r_tyS ?_)
  | ((with_reducible refine' Zn.r_tyL ?h ?_); (case h => first | exact Zn.sl_of (by walk_at "fd") | assumption))
  | ((with_reducible refine Zn.r_iteT ?h ?_); (case h => first | assumption | decide +kernel | exact rfl))
  | ((with_reducible refine Zn.r_iteF ?h ?_); (case h => first | assumption | decide +kernel | exact (fun h => Bool.noConfusion (show false = true from h))))
  | ((with_reducible refine Zn.r_rng ?h1 ?h2 ?_); (case h1 => first | omega | decide); (case h2 => first | omega | decide))
  | ((with_reducible refine' Zn.r_in ?h ?e1 ?e2 ?_); (case h => first | exact .inr (Zn.st_of (by walk_at "fd")) | exact .inl (Zn.sl_of (by walk_at "fd")) | exact .inl (by assumption) | exact .inr (by assumption)); (case e1 => rfl); (case e2 => rfl))
  | ((with_reducible refine Zn.r_al ?h ?_); (case h => exact Zn.len_ok (Nat.le_of_ble_eq_true rfl)); intro p hp)
  | (with_reducible refine Zn.r_next ?_)
  | ((with_reducible refine Zn.r_I ?hc ?_); (case hc => first | assumption | exact Zn.pow2_pos _ | omega | decide | exact Zn.mulR (by decide) (by decide) | exact Zn.mulL (by decide) (by decide) | exact ⟨by decide, by decide⟩ | exact ⟨by decide, by decide, by decide⟩ | exact Zn.mulR (by omega) (by omega) | exact Zn.mulL (by omega) (by omega) | exact ⟨by omega, by omega⟩ | exact ⟨by omega, by omega, by omega⟩))
  | ((with_reducible refine' Zn.r_setL ?h ?e ?_); (case h => walk_at "fd"); (case e => exact rfl))
  | ((with_reducible refine' Zn.r_ixL ?h ?e ?_); (case h => first | exact Zn.sl_of (by walk_at "fd") | assumption); (case e => exact rfl))
  | ((with_reducible refine' Zn.r_ixT ?h ?e ?_); (case h => first | exact Zn.st_of (by walk_at "fd") | assumption); (case e => exact rfl))
  | ((with_reducible refine' Zn.r_tupd ?h ?e ?_); (case h => first | exact Zn.st_of (by walk_at "fd") | assumption); (case e => exact rfl)))
local macro_rules | `(tactic| walk_at "rd") => `(tactic| ((try dsimp only); (repeat ((walk_at "rd1"); (try dsimp only)))))
namespace Zn
open PySem PySem.Spec PyProof.Rows L2
abbrev s__law_begin : Stmt := topS 4
theorem sc__law_begin : FnScope ["_law_script", "_law_cell"] ["_law_script"] (defScope s__law_begin) := ⟨rfl, rfl, rfl, by decide +kernel, rfl, by decide +kernel, by decide +kernel⟩

abbrev s__law_draw : Stmt := topS 5
theorem sc__law_draw : FnScope ["_law_d", "_law_many", "_law_found", "_law_size", "_law_cell"] ["_law_d", "_law_many"] (defScope s__law_draw) := ⟨rfl, rfl, rfl, by decide +kernel, rfl, by decide +kernel, by decide +kernel⟩

/-- what the drawer keeps: its own list at d, the script's ints at c -/
def DL (H : Hp) (d c : Addr) : Prop := ∃ (at_ rest st last : Int), H d = some (.lst [.ref c, .int at_, .int rest, .int st, .int last]) ∧ 0 ≤ at_ ∧ 0 ≤ rest ∧ 0 ≤ st ∧ st < 2147483647
structure Drw (H : Hp) (d c : Addr) : Prop where
  dl : DL H d c
  ne : c ≠ d
  cl : ∃ ns : List Int, H c = some (.lst (ns.map V.int))
theorem Drw.same {H H' : Hp} {d c : Addr} (D : Drw H d c) (s : Same H H') : Drw H' d c := by
  obtain ⟨⟨a, r, st, l, h1, h2⟩, ne, ns, h3⟩ := D
  exact ⟨⟨a, r, st, l, s _ _ h1, h2⟩, ne, ns, s _ _ h3⟩
theorem Drw.get {H : Hp} {d c : Addr} (D : Drw H d c) : ∃ xs, H d = some (.lst xs) := by
  obtain ⟨⟨a, r, st, l, h1, _⟩, _⟩ := D
  exact ⟨_, h1⟩
theorem Drw.upd {H : Hp} {d c a : Addr} {o : HO} (D : Drw H d c) (n1 : d ≠ a) (n2 : c ≠ a) : Drw (upd H a o) d c := by
  obtain ⟨⟨at_, r, st, l, h1, h2⟩, ne, ns, h3⟩ := D
  exact ⟨⟨at_, r, st, l, (upd_ne n1).trans h1, h2⟩, ne, ns, (upd_ne n2).trans h3⟩
theorem Drw.nd {H : Hp} {d c a : Addr} (D : Drw H d c) (h : H a = none) : d ≠ a := by
  obtain ⟨xs, e⟩ := D.get
  exact ne_of_none e h
theorem Drw.nc {H : Hp} {d c a : Addr} (D : Drw H d c) (h : H a = none) : c ≠ a := by
  obtain ⟨ns, e⟩ := D.cl
  exact ne_of_none e h
/-- a draw: a number below many; only the drawer's own list changes -/
def spDraw : Sp := fun vs H Q _ => ∃ (d c : Addr) (many : Int), vs = [.ref d, .int many] ∧ Drw H d c ∧ 1 ≤ many ∧ many < 1073741824 ∧
  ∀ (n : Int) (xs : List V), 0 ≤ n → n < many → Drw (upd H d (.lst xs)) d c → Q (.int n) (upd H d (.lst xs))
def spBegin (K : PySem.W.Frag) : Sp := fun vs H Q _ => ∃ (a : Addr) (ns : List Int), vs = [.ref a] ∧ SqL K H a (ns.map V.int) ∧ ns.length ≤ 63 ∧
  ∀ (H' : Hp) (d c : Addr), Same H H' → H d = none → Drw H' d c → Q (.ref d) H'
/-- the names that the drawer reads -/
structure TDraw (mg : Str → Option Value) : Prop where
  z_int : mg "int" = none
  z_len : mg "len" = none
  z_abs : mg "abs" = none
section
variable {P : Program} {w : World} {K : PySem.W.Frag} {mg : Str → Option Value} {base : Heap}
theorem ok_begin {f : Addr} {fd : FuncData} (F : Fun K "_law_begin" "_law_begin" s__law_begin f fd) (T : TDraw mg) : FnOk P w K mg base CX0 1 f fd ["_law_script"] (spBegin K) := by
  refine F.ok sc__law_begin (fun vs H Q E h => ?_) (fun cdv A outer s H vs Q E hr h => ?_)
  · obtain ⟨a, ns, rfl, _⟩ := h
    rfl
  · obtain ⟨a, ns, rfl, hS, hlen, q⟩ := h
    refine ⟨_, 
      (pss_one (ps_ret (pe_lst (pa_cons (pe_lc (own := [("_law_cell", 1)]) rfl sc__law_begin.nd (pi_list (pv 0)) (blkOk_by (N := ["_law_script", "_law_cell"]) (sc := defScope s__law_begin) (by decide +kernel)) (fun _ _ _ _ _ => (pg_name (i := 1) sc__law_begin.nd rfl (Or.inl rfl))) (fun _ _ _ _ _ => pts_nil) (fun _ _ _ _ _ => (pe_callTy call_int1 (by rfl) T.z_int (by decide +kernel) (pa_cons (pv 1) pa_nil)))) (pa_cons pe_int (pa_cons pe_int (pa_cons pe_int (pa_cons pe_int pa_nil)))))))), ?_⟩
    walk_at "rd"
    refine r_ref ⟨_, hS⟩ fun c hc => ?_
    refine lc_list (K := K) (a := a) (xs := ns.map V.int) (fun i H' => Same H H' ∧ H' c = some (.lst ((ns.take i).map V.int))) ⟨same_new hc, upd_same⟩ (fun i H' _ h => h.1.seq hS) (fun i x H' hi h => ?_) (fun H' h => ?_)
    · obtain ⟨u, rfl, hu⟩ : ∃ u, x = V.int u ∧ ns[i]? = some u := by
        rw [List.getElem?_map] at hi
        cases e : ns[i]? with
        | none => rw [e] at hi; cases hi
        | some u => rw [e] at hi; exact ⟨u, (Option.some.inj hi).symm, rfl⟩
      walk_at "rd"
      refine ⟨rfl, ?_⟩
      walk_at "rd"
      refine ⟨_, h.2, ?_, ?_, ?_⟩
      · rw [List.length_map, List.length_take]
        exact Nat.lt_of_le_of_lt (Nat.min_le_right _ _) (small1000 (by omega))
      · exact fun b o e => by
          rw [upd_ne (ne_of_none e hc)]
          exact h.1 _ _ e
      · rw [upd_same, List.take_add_one, hu, List.map_append]
        rfl
    · rw [List.length_map, List.take_of_length_le (Nat.le_refl _)] at h
      walk_at "rd"
      rename_i d hd
      have ncd : c ≠ d := ne_of_none h.2 hd
      refine q _ d c (h.1.trans (same_new hd)) (h.1.free hd) ⟨⟨0, 0, 7, 2, upd_same, by decide⟩, ncd, ns, by rw [upd_ne ncd]; exact h.2⟩
theorem ok_draw {f : Addr} {fd : FuncData} (F : Fun K "_law_draw" "_law_draw" s__law_draw f fd) (T : TDraw mg) : FnOk P w K mg base CX0 1 f fd ["_law_d", "_law_many"] spDraw := by
  refine F.ok sc__law_draw (fun vs H Q E h => ?_) (fun cdv A outer s H vs Q E hr h => ?_)
  · obtain ⟨d, c, m, rfl, _⟩ := h
    rfl
  · obtain ⟨d, c, m, rfl, ⟨⟨at_, rest, st, last, hd, a0, r0, s0, s1⟩, ncd, ns, hc⟩, m1, m2, q⟩ := h
    have hD : CDiv rest m := ⟨by omega, m2⟩
    have hm0 : 0 < m := by omega
    refine ⟨_, 
      (pss_cons (ps_if (pt_cmpR op_gt (pe_ix (r := rIxL K) ix_list (pv 0) pe_int (fun _ _ => rfl)) pe_int (nomark _)) 
       (pss_cons (ps_set (i := 2) sc__law_draw.nd rfl (Or.inl rfl) (pe_ix (r := rIxL K) ix_list (pv 0) pe_int (fun _ _ => rfl)))
       (pss_cons (ps_asg (pe_op op_fdiv (pv 2) (pv 1)) (pg_sub (pv 0) pe_int set_list))
       (pss_one (ps_ret (pe_op op_mod (pe_callTy call_int1 (by rfl) T.z_int (by decide +kernel) (pa_cons (pv 2) pa_nil)) (pv 1)))))) pss_nil)
      (pss_cons (ps_set (i := 3) sc__law_draw.nd rfl (Or.inl rfl) pe_int)
      (pss_cons (ps_if (pt_cmpR op_lt (pe_ix (r := rIxL K) ix_list (pv 0) pe_int (fun _ _ => rfl)) (pe_callB call_len_seq (by rfl) T.z_len (by decide +kernel) (pa_cons (pe_ix (r := rIxL K) ix_list (pv 0) pe_int (fun _ _ => rfl)) pa_nil)) (nomark _)) 
       (pss_cons (ps_set (i := 4) sc__law_draw.nd rfl (Or.inl rfl) (pe_ix (r := rIxL K) ix_list (pe_ix (r := rIxL K) ix_list (pv 0) pe_int (fun _ _ => rfl)) (pe_ix (r := rIxL K) ix_list (pv 0) pe_int (fun _ _ => rfl)) (fun _ _ => rfl)))
       (pss_one (ps_set (i := 3) sc__law_draw.nd rfl (Or.inl rfl) (pe_op op_add (pe_op op_mul pe_int (pe_callB call_abs (by rfl) T.z_abs (by decide +kernel) (pa_cons (pv 4) pa_nil))) (pe_callTy call_int1 (by rfl) T.z_int (by decide +kernel) (pa_cons (pe_cmpR op_lt (pv 4) pe_int (nomark _)) pa_nil)))))) pss_nil)
      (pss_cons (ps_augS (pv 0) pe_int Zn.pget_list pe_int ip_add set_list)
      (pss_cons (ps_if (pt_cmpR op_ge (pv 3) (pe_op op_mul pe_int (pe_op op_pow pe_int pe_int)) (nomark _)) 
       (pss_cons (ps_set (i := 2) sc__law_draw.nd rfl (Or.inl rfl) (pe_op op_mod (pe_callTy call_int1 (by rfl) T.z_int (by decide +kernel) (pa_cons (pe_op op_fdiv (pv 3) pe_int) pa_nil)) (pe_op op_shl pe_int pe_int)))
       (pss_cons (ps_asg (pe_op op_fdiv (pv 2) (pv 1)) (pg_sub (pv 0) pe_int set_list))
       (pss_one (ps_ret (pe_op op_mod (pe_callTy call_int1 (by rfl) T.z_int (by decide +kernel) (pa_cons (pv 2) pa_nil)) (pv 1)))))) pss_nil)
      (pss_cons (ps_asg (pe_op op_mod (pe_callTy call_int1 (by rfl) T.z_int (by decide +kernel) (pa_cons (pe_op op_add (pe_op op_add (pe_op op_add (pe_op op_mul (pe_ix (r := rIxL K) ix_list (pv 0) pe_int (fun _ _ => rfl)) pe_int) (pe_op op_mul (pe_op op_mod (pe_callTy call_int1 (by rfl) T.z_int (by decide +kernel) (pa_cons (pv 3) pa_nil)) pe_int) pe_int)) (pe_op op_mul (pe_ix (r := rIxL K) ix_list (pv 0) pe_int (fun _ _ => rfl)) pe_int)) pe_int) pa_nil)) pe_int) (pg_sub (pv 0) pe_int set_list))
      (pss_one (ps_ret (pe_op op_mod (pe_callTy call_int1 (by rfl) T.z_int (by decide +kernel) (pa_cons (pe_op op_fdiv (pe_ix (r := rIxL K) ix_list (pv 0) pe_int (fun _ _ => rfl)) pe_int) pa_nil)) (pv 1)))))))))), ?_⟩
    walk_at "rd"
    refine ite2 (fun h1 => ?_) (fun h1 => ?_)
    · have h1 : 0 < rest := of_decide_eq_true h1
      walk_at "rd"
      refine q _ _ (Int.emod_nonneg _ (by omega)) (Int.emod_lt_of_pos _ (by omega)) ⟨⟨at_, rest / m, st, last, upd_same, a0, Int.ediv_nonneg r0 (by omega), s0, s1⟩, ncd, ns, by rw [upd_ne ncd]; exact hc⟩
    · walk_at "rd"
      refine ite2 (fun h2 => ?_) (fun h2 => ?_)
      · have h2 : at_ < ((ns.map V.int).length : Int) := of_decide_eq_true h2
        rw [List.length_map] at h2
        have hj : at_.toNat < ns.length := by omega
        walk_at "rd"
        refine r_ixL (v := V.int ns[at_.toNat]) (sl_of hc) (atI_lt (j := at_.toNat) (by omega) (by rw [List.getElem?_map, List.getElem?_eq_getElem hj]; rfl)) ?_
        walk_at "rd"
        refine ite2 (fun h3 => ?_) (fun h3 => ?_)
        · walk_at "rd"
          rw [upd_upd]
          have e0 : ∀ z : Int, 0 ≤ z % (1 * 2 ^ Int.toNat 6000) := fun z => Int.emod_nonneg z (Int.ne_of_gt (pow2_pos (Int.toNat 6000)))
          refine q _ _ (Int.emod_nonneg _ (by omega)) (Int.emod_lt_of_pos _ (by omega)) ⟨⟨at_ + 1, _, st, last, upd_same, by omega, Int.ediv_nonneg (e0 _) (by omega), s0, s1⟩, ncd, ns, by rw [upd_ne ncd]; exact hc⟩
        · walk_at "rd"
          rw [upd_upd]
          refine q _ _ (Int.emod_nonneg _ (by omega)) (Int.emod_lt_of_pos _ (by omega)) ⟨⟨at_ + 1, rest, _, last, upd_same, by omega, r0, Int.emod_nonneg _ (by decide), Int.emod_lt_of_pos _ (by decide)⟩, ncd, ns, by rw [upd_ne ncd]; exact hc⟩
      · walk_at "rd"
        rw [upd_upd]
        refine q _ _ (Int.emod_nonneg _ (by omega)) (Int.emod_lt_of_pos _ (by omega)) ⟨⟨at_ + 1, rest, _, last, upd_same, by omega, r0, Int.emod_nonneg _ (by decide), Int.emod_lt_of_pos _ (by decide)⟩, ncd, ns, by rw [upd_ne ncd]; exact hc⟩
end
end Zn
/-! more readings: texts, while, chains -/
namespace Zn
open PySem PySem.Spec PyProof.Rows L2 TL
section
variable {σ : L2.St} {H : Hp} {K : PySem.W.Frag} {Q : VK} {ta tb te tc : TE} {t u c : TT} {D : Ends} {t1 t2 : TS} {g : TG} {i : Nat} {v x y : V} {r r' : R2} {tr : TA}
theorem r_chain (q : ta σ H fun x H1 => tb σ H1 fun y H2 => r x y H2 fun z H3 => ∃ k, z = .bl k ∧
    (if k = true then tc σ H3 fun v H4 => r' y v H4 Q else Q (.bl false) H3)) : tChain r r' ta tb tc σ H Q := q
theorem r_ss {a b : Str} {R : Str → Str → Prop} (q : R a b) : ∃ i j, V.str a = V.str i ∧ V.str b = V.str j ∧ R i j := ⟨a, b, rfl, rfl, q⟩
theorem r_sign {c : Nat} {z : Str} {R : Nat → Str → Prop} (q : R c z) : ∃ (d : Nat) (y : Str), V.str ⟨#[c]⟩ = V.str ⟨#[d]⟩ ∧ V.str z = V.str y ∧ R d y := ⟨c, z, rfl, rfl, q⟩
theorem r_ixS {z : Str} {i : Int} {c : Nat} (h : z.length ≤ sizeLine) (e : atI z.cps.toList i = some c) (q : Q (.str ⟨#[c]⟩) H) : rIxS (.str z) (.int i) H Q := ⟨z, i, c, rfl, rfl, h, e, q⟩
theorem r_slS {z : Str} {lo hi : Option Int} (h : z.length ≤ sizeLine) (q : Q (.str (cutS z lo hi)) H) : rSlS (.str z) lo hi H Q := ⟨z, rfl, h, q⟩
theorem r_lenS {z : Str} {R : Str → Prop} (q : R z) : ∃ y, [V.str z] = [V.str y] ∧ R y := ⟨z, rfl, q⟩
theorem r_istr {R : It → Hp → Prop} (q : te σ H fun v H1 => ∃ x, v = .str x ∧ R (Its x) H1) : iStr te σ H R := q
theorem r_1s {z : Str} {R : Str → Prop} (q : R z) : ∃ y, V.str z = V.str y ∧ R y := ⟨z, rfl, q⟩
theorem r_62 {j : Int} {R : Prop} (h1 : -(2 ^ 62) ≤ j) (h2 : j < 2 ^ 62) (q : R) : -(2 ^ 62) ≤ j ∧ j < 2 ^ 62 ∧ R := ⟨h1, h2, q⟩
theorem r_M1 {f : V → List V → Hp → VK → Prop} (q : ta σ H fun x H1 => (∃ a, x = .str a) ∧ tb σ H1 fun y H2 => f x [y] H2 Q) : tM1 f ta tb σ H Q := q
theorem r_exS {z : Str} {R : Prop} (q : R) : (∃ a, V.str z = V.str a) ∧ R := ⟨⟨z, rfl⟩, q⟩
theorem r_s1 {a b : Str} {R : Str → Str → Prop} (q : R a b) : ∃ i j, V.str a = V.str i ∧ [V.str b] = [V.str j] ∧ R i j := ⟨a, b, rfl, rfl, q⟩
theorem r_truL {p : Addr} {xs : List V} {R : Bool → Prop} (h : H p = some (.lst xs)) (q : R (!xs.isEmpty)) : ∃ k, TruV K (.ref p) H k ∧ R k := ⟨_, .inl ⟨xs, .inl (.inl h), rfl⟩, q⟩
theorem r_truT {p : Addr} {xs : List V} {R : Bool → Prop} (h : H p = some (.tup xs)) (q : R (!xs.isEmpty)) : ∃ k, TruV K (.ref p) H k ∧ R k := ⟨_, .inr (.inl ⟨xs, .inl (.inl h), rfl⟩), q⟩
theorem r_truI {i : Int} {R : Bool → Prop} (q : R (i != 0)) : ∃ k, TruV K (.int i) H k ∧ R k := ⟨_, rfl, q⟩
theorem seq_same (h2 : t2 D σ H) (h1 : ∀ nx' : L2.St → Hp → Prop, nx' σ H → t1 { D with nx := nx' } σ H) : tSeq t1 t2 D σ H := h1 (t2 D) h2
theorem ne_nil {xs : List V} (h : (!xs.isEmpty) = true) : xs ≠ [] := by
  intro e
  subst e
  cases h
theorem r_lz {n : Nat} {R : Prop} (h : n ≤ sizeLine) (q : R) : n ≤ sizeLine ∧ R := ⟨h, q⟩
theorem r_inY {p : Addr} {xs : List V} (h : SqL K H p xs ∨ SqT K H p xs) (e1 : flatV x = true) (e2 : xs.all flatV = true) (q : Q (.bl (inV x xs)) H) : rIn K false x (.ref p) H Q := ⟨p, xs, rfl, h, e1, e2, q⟩
theorem r_inN {p : Addr} {xs : List V} (h : SqL K H p xs ∨ SqT K H p xs) (e1 : flatV x = true) (e2 : xs.all flatV = true) (q : Q (.bl (!inV x xs)) H) : rIn K true x (.ref p) H Q := ⟨p, xs, rfl, h, e1, e2, q⟩
theorem r_while (q : ∃ Z : Nat → L2.St → Hp → Prop, (∃ m, Z m σ H) ∧ ∀ m σ H, Z m σ H → t σ H fun b H1 =>
    if b = true then ∃ Y : L2.St → Hp → Prop, (∀ σ' H', Y σ' H' → ∃ m', m' < m ∧ Z m' σ' H') ∧ t1 { D with nx := Y, ct := Y, bk := D.nx } σ H1
    else D.nx σ H1) : tWhile t t1 D σ H := q
theorem Same.mut {H H' : Hp} {g : Addr} {o : HO} (s : Same H H') (hg : H g = none) : Same H (upd H' g o) := fun b x e => by
  rw [upd_ne (ne_of_none e hg)]
  exact s _ _ e
theorem keep_new {d : Addr} {H H1 : Hp} {p : Addr} {o : HO} (s : Keep d H H1) (h : H1 p = none) : Keep d H (upd H1 p o) := s.trans (Same.keep (same_new h))
theorem Keep.free {d : Addr} {H H1 : Hp} {p : Addr} (s : Keep d H H1) (n : p ≠ d) (h : H1 p = none) : H p = none := by
  cases e : H p with
  | none => rfl
  | some x =>
    have := s _ _ n e
    rw [h] at this
    cases this
theorem Keep.mut {d : Addr} {H H1 : Hp} {p : Addr} {o : HO} (s : Keep d H H1) (h : H p = none) : Keep d H (upd H1 p o) := fun b x n e => by
  rw [upd_ne (ne_of_none e h)]
  exact s _ _ n e
theorem map_get {ns : List Int} {i : Nat} {x : V} (hi : (ns.map V.int)[i]? = some x) : ∃ u, x = V.int u ∧ ns[i]? = some u := by
  rw [List.getElem?_map] at hi
  cases e : ns[i]? with
  | none => rw [e] at hi; cases hi
  | some u => rw [e] at hi; exact ⟨u, (Option.some.inj hi).symm, rfl⟩
theorem small {w : Int} (h1 : 1 ≤ w) (h8 : w ≤ 8) : (2 : Int) ^ w.toNat ≤ 256 := by
  have : w = 1 ∨ w = 2 ∨ w = 3 ∨ w = 4 ∨ w = 5 ∨ w = 6 ∨ w = 7 ∨ w = 8 := by omega
  rcases this with h | h | h | h | h | h | h | h <;> subst h <;> decide
/-- the parts of a text -/
theorem tl_cut {z : Str} {a b : Int} (h0 : 0 ≤ a) (h1 : 0 ≤ b) : tl (cutS z (some a) (some b)) = ((tl z).drop a.toNat).take (b.toNat - a.toNat) := by
  show ((tl z).drop (HT.sIx z.length 0 (some a))).take (HT.sIx z.length z.length (some b) - HT.sIx z.length 0 (some a)) = _
  obtain ⟨n, rfl⟩ := Int.eq_ofNat_of_zero_le h0
  obtain ⟨m, rfl⟩ := Int.eq_ofNat_of_zero_le h1
  rw [HT.sIx_nat, HT.sIx_nat, len_tl, Int.toNat_natCast, Int.toNat_natCast]
  by_cases h : n ≤ (tl z).length
  · rw [Nat.min_eq_left h]
    by_cases h2 : m ≤ (tl z).length
    · rw [Nat.min_eq_left h2]
    · rw [Nat.min_eq_right (by omega), List.take_of_length_le (by rw [List.length_drop]; omega), List.take_of_length_le (by rw [List.length_drop]; omega)]
  · rw [List.drop_of_length_le (by omega), List.drop_of_length_le (by omega), List.take_nil, List.take_nil]
theorem tl_cut_to {z : Str} {b : Int} (h1 : 0 ≤ b) : tl (cutS z none (some b)) = (tl z).take b.toNat := by
  have := tl_cut (z := z) (Int.le_refl 0) h1
  show ((tl z).drop (HT.sIx z.length 0 none)).take (HT.sIx z.length z.length (some b) - HT.sIx z.length 0 none) = _
  have e : HT.sIx z.length 0 (some 0) = 0 := HT.sIx_nat _ _ 0 |>.trans (by simp)
  have e2 : HT.sIx z.length 0 none = 0 := rfl
  rw [e2, ← e]
  exact this
end
end Zn
/-! trees of tuples; heaps that keep all but some lists -/
namespace Zn
open PySem PySem.Spec PyProof.Rows L2 TL
theorem at0 {a : V} {l : List V} : atI (a :: l) 0 = some a := atI_nat (j := 0) rfl
theorem at1 {a b : V} {l : List V} : atI (a :: b :: l) 1 = some b := atI_nat (j := 1) rfl
theorem at2 {a b c : V} {l : List V} : atI (a :: b :: c :: l) 2 = some c := atI_nat (j := 2) rfl
theorem at3 {a b c d : V} {l : List V} : atI (a :: b :: c :: d :: l) 3 = some d := atI_nat (j := 3) rfl
theorem at4 {a b c d e : V} {l : List V} : atI (a :: b :: c :: d :: e :: l) 4 = some e := atI_nat (j := 4) rfl
/-- signs that a text can have -/
def okB (z : Str) : Bool := (tl z).all (decide <| · < 1114112)
theorem strOk_of {t : Str} (h : okB t = true) : PyData.strOk t = true := by
  unfold PyData.strOk
  rw [← Array.all_toList]
  exact h
/-- what stands is kept, but in the lists of S -/
structure Kp (S : List Addr) (H H' : Hp) : Prop where
  x : ∀ b o, b ∉ S → H b = some o → H' b = some o
  t : ∀ b xs, H b = some (.tup xs) → H' b = some (.tup xs)
theorem Kp.refl (S : List Addr) (H : Hp) : Kp S H H := ⟨fun _ _ _ h => h, fun _ _ h => h⟩
theorem Kp.trans {S : List Addr} {H H1 H2 : Hp} (a : Kp S H H1) (b : Kp S H1 H2) : Kp S H H2 := ⟨fun c o n h => b.x c o n (a.x c o n h), fun c o h => b.t c o (a.t c o h)⟩
theorem Kp.mono {S S' : List Addr} {H H1 : Hp} (a : Kp S H H1) (h : ∀ b ∈ S, b ∈ S') : Kp S' H H1 := ⟨fun c o n e => a.x c o (fun m => n (h c m)) e, a.t⟩
theorem Kp.same {S : List Addr} {H H1 : Hp} (s : Same H H1) : Kp S H H1 := ⟨fun c o _ e => s _ _ e, fun c o e => s _ _ e⟩
theorem Kp.new {S : List Addr} {H H1 : Hp} {p : Addr} {o : HO} (a : Kp S H H1) (h : H1 p = none) : Kp S H (upd H1 p o) := a.trans (.same (same_new h))
theorem Kp.set {S : List Addr} {H H1 : Hp} {p : Addr} {l : List V} {o : HO} (a : Kp S H H1) (m : p ∈ S) (h : H1 p = some (.lst l)) : Kp S H (upd H1 p o) :=
  a.trans ⟨fun c x n e => by rw [upd_ne (fun (k : c = p) => n (k ▸ m))]; exact e, fun c x e => by rw [upd_ne (ne_of e h (by intro z; cases z))]; exact e⟩
theorem Kp.free {S : List Addr} {H H1 : Hp} {p : Addr} (a : Kp S H H1) (n : p ∉ S) (h : H1 p = none) : H p = none := by
  cases e : H p with
  | none => rfl
  | some x =>
    have := a.x _ _ n e
    rw [h] at this
    cases this
/-- a list that was made behind H -/
theorem Kp.mut {S : List Addr} {H H1 : Hp} {p : Addr} {l : List V} {o : HO} (a : Kp S H H1) (h0 : H p = none) (h : H1 p = some (.lst l)) : Kp S H (upd H1 p o) :=
  ⟨fun c x n e => by rw [upd_ne (ne_of_none e h0)]; exact a.x _ _ n e, fun c x e => by rw [upd_ne (ne_of (a.t _ _ e) h (by intro z; cases z))]; exact a.t _ _ e⟩
theorem Kp.seq {S : List Addr} {K : PySem.W.Frag} {H H1 : Hp} {p : Addr} {l : List V} (a : Kp S H H1) (n : p ∉ S) (h : SqL K H p l) : SqL K H1 p l := by
  rcases h with (h | ⟨o, h⟩) | h
  · exact .inl (.inl (a.x _ _ n h))
  · exact .inl (.inr ⟨o, a.x _ _ n h⟩)
  · exact .inr h
theorem Kp.drw {H : Hp} {d c : Addr} {zs : List V} {S : List Addr} (D : Drw H d c) (m : d ∈ S) : Kp S H (upd H d (.lst zs)) := by
  obtain ⟨l, h⟩ := D.get
  exact (Kp.refl S H).set m h
/-- what is no reference -/
def Atom : V → Prop
  | .non => True
  | .bl _ => True
  | .int _ => True
  | .str s => okB s = true
  | _ => False
/-- a tree of tuples, at most n deep -/
def Tree : Nat → Hp → V → Prop
  | 0, _, v => Atom v
  | n + 1, H, v => Atom v ∨ ∃ p xs, v = .ref p ∧ H p = some (.tup xs) ∧ ∀ x ∈ xs, Tree n H x
theorem Tree.atom {v : V} {H : Hp} (h : Atom v) : ∀ n, Tree n H v
  | 0 => h
  | _ + 1 => .inl h
theorem Tree.up : ∀ {n : Nat} {H : Hp} {v : V}, Tree n H v → Tree (n + 1) H v
  | 0, _, _, h => .inl h
  | _ + 1, _, _, h => by
    rcases h with h | ⟨p, xs, e, hp, hx⟩
    · exact .inl h
    · exact .inr ⟨p, xs, e, hp, fun x m => (hx x m).up⟩
theorem Tree.le {n m : Nat} {H : Hp} {v : V} (h : Tree n H v) (hm : n ≤ m) : Tree m H v := by
  induction hm with
  | refl => exact h
  | step _ ih => exact ih.up
theorem Tree.kp : ∀ {n : Nat} {S : List Addr} {H H' : Hp} {v : V}, Tree n H v → Kp S H H' → Tree n H' v
  | 0, _, _, _, _, h, _ => h
  | _ + 1, _, _, _, _, h, k => by
    rcases h with h | ⟨p, xs, e, hp, hx⟩
    · exact .inl h
    · exact .inr ⟨p, xs, e, k.t _ _ hp, fun x m => (hx x m).kp k⟩
theorem Tree.mk {n : Nat} {H : Hp} {p : Addr} {xs : List V} (hp : H p = some (.tup xs)) (h : ∀ x ∈ xs, Tree n H x) : Tree (n + 1) H (.ref p) := .inr ⟨p, xs, rfl, hp, h⟩
theorem Tree.tup {n : Nat} {H : Hp} {p : Addr} {xs : List V} (hp : H p = none) (h : ∀ x ∈ xs, Tree n H x) : Tree (n + 1) (upd H p (.tup xs)) (.ref p) :=
  .mk upd_same fun x m => (h x m).kp (.same (S := []) (same_new hp))
theorem Tree.str {s : Str} {H : Hp} {n : Nat} (h : okB s = true) : Tree n H (.str s) := .atom (v := .str s) h n
theorem Tree.int {i : Int} {H : Hp} {n : Nat} : Tree n H (.int i) := .atom (v := .int i) trivial n
theorem Tree.non {H : Hp} {n : Nat} : Tree n H .non := .atom (v := .non) trivial n
theorem all_cons {α : Type} {P : α → Prop} {x : α} {xs : List α} (h : P x) (hs : ∀ y ∈ xs, P y) : ∀ y ∈ x :: xs, P y := fun y m => by
  rcases List.mem_cons.mp m with rfl | m
  · exact h
  · exact hs y m
theorem all_nil {α : Type} {P : α → Prop} : ∀ y ∈ ([] : List α), P y := fun _ m => by cases m
/-- the tree as a value -/
theorem Tree.dp {K : PySem.W.Frag} : ∀ {n : Nat} {H : Hp} {v : V}, Tree n H v → ∃ D : PyData, Dp K H v D ∧ D.canLay0 = true ∧ D.depth ≤ n := by
  have at_ : ∀ {v : V} {H : Hp}, Atom v → ∃ D : PyData, Dp K H v D ∧ D.canLay0 = true ∧ D.depth ≤ 0 := fun {v H} h => by
    cases v with
    | non => exact ⟨.none, .non, rfl, by simp [PyData.depth]⟩
    | bl b => exact ⟨.bool b, .bl b, rfl, by simp [PyData.depth]⟩
    | int i => exact ⟨.int i, .int i, rfl, by simp [PyData.depth]⟩
    | str s => exact ⟨.str s, .str s, by simp [PyData.canLay0, strOk_of h], by simp [PyData.depth]⟩
    | _ => exact h.elim
  intro n
  induction n with
  | zero => exact fun h => at_ h
  | succ n ih =>
    intro H v h
    rcases h with h | ⟨p, xs, rfl, hp, hx⟩
    · obtain ⟨D, h1, h2, h3⟩ := at_ (H := H) h
      exact ⟨D, h1, h2, by omega⟩
    · have : ∃ ds : List PyData, DpAll K H xs ds ∧ PyData.canLayAll0 ds = true ∧ PyData.depthAll ds ≤ n := by
        clear hp
        induction xs with
        | nil => exact ⟨[], .nil, by simp [PyData.canLayAll0], by simp [PyData.depthAll]⟩
        | cons x xs ihx =>
          obtain ⟨ds, h1, h2, h3⟩ := ihx fun y m => hx y (List.mem_cons_of_mem _ m)
          obtain ⟨e, g1, g2, g3⟩ := ih (hx x List.mem_cons_self)
          exact ⟨e :: ds, .cons g1 h1, by simp [PyData.canLayAll0, g2, h2], by simp only [PyData.depthAll]; omega⟩
      obtain ⟨ds, h1, h2, h3⟩ := this
      exact ⟨.tuple ds, .tup (.inl (.inl hp)) h1, by simp [PyData.canLay0, h2], by simp only [PyData.depth]; omega⟩
end Zn
local macro_rules | `(tactic| walk_at "rs1") => `(tactic| first
  | (with_reducible refine Zn.r_ss ?_)
  | (with_reducible refine Zn.r_chain ?_)
  | (with_reducible refine Zn.r_M1 ?_)
  | (with_reducible refine Zn.r_truI ?_)
  | ((with_reducible refine' Zn.r_truL ?h ?_); (case h => walk_at "fd"))
  | ((with_reducible refine' Zn.r_truT ?h ?_); (case h => walk_at "fd"))
  | (with_reducible refine Zn.r_exS ?_)
  | (with_reducible refine Zn.r_s1 ?_)
  | (with_reducible refine Zn.r_sign ?_)
  | ((with_reducible refine Zn.r_slS ?h ?_); (case h => first | assumption | omega))
  | (with_reducible refine Zn.r_lenS ?_)
  | (with_reducible refine Zn.r_istr ?_)
  | (with_reducible refine Zn.r_1s ?_)
  | ((with_reducible refine Zn.r_62 ?h1 ?h2 ?_); (case h1 => first | omega | decide); (case h2 => first | omega | decide))
  | ((with_reducible refine' Zn.r_inY ?h ?e1 ?e2 ?_); (case h => first | exact .inr (Zn.st_of (by walk_at "fd")) | exact .inl (Zn.sl_of (by walk_at "fd")) | exact .inl (by assumption) | exact .inr (by assumption)); (case e1 => rfl); (case e2 => rfl))
  | ((with_reducible refine' Zn.r_inN ?h ?e1 ?e2 ?_); (case h => first | exact .inr (Zn.st_of (by walk_at "fd")) | exact .inl (Zn.sl_of (by walk_at "fd")) | exact .inl (by assumption) | exact .inr (by assumption)); (case e1 => rfl); (case e2 => rfl))
  | (with_reducible refine Zn.r_while ?_)
  | (walk_at "rd1")
  | ((with_reducible refine' Zn.r_ixT ?h ?e ?_); (case h => first | exact Zn.st_of (by walk_at "fd") | assumption); (case e => first | exact Zn.at1 | exact Zn.at2 | exact Zn.at3 | exact Zn.at0 | exact Zn.at4))
  | ((with_reducible refine Zn.r_lz ?h ?_); (case h => first | assumption | omega)))
local macro_rules | `(tactic| walk_at "rs") => `(tactic| ((try dsimp only); (repeat ((walk_at "rs1"); (try dsimp only)))))
local macro_rules | `(tactic| walk_at "rt") => `(tactic| ((try dsimp only); (repeat ((fail_if_success (with_reducible refine Zn.r_seq ?_)); (walk_at "rs1"); (try dsimp only)))))
namespace Zn
open PySem PySem.Spec PyProof.Rows L2 TL
abbrev s_entries_of : Stmt := topS 1
theorem sc_entries_of : FnScope ["program", "one"] ["program"] (defScope s_entries_of) := ⟨rfl, rfl, rfl, by decide +kernel, rfl, by decide +kernel, by decide +kernel⟩

abbrev s_declared : Stmt := topS 2
theorem sc_declared : FnScope ["program", "name", "one"] ["program", "name"] (defScope s_declared) := ⟨rfl, rfl, rfl, by decide +kernel, rfl, by decide +kernel, by decide +kernel⟩

abbrev s__law_pick : Stmt := topS 6
theorem sc__law_pick : FnScope ["_law_d", "_law_row"] ["_law_d", "_law_row"] (defScope s__law_pick) := ⟨rfl, rfl, rfl, by decide +kernel, rfl, by decide +kernel, by decide +kernel⟩

abbrev s__law_pop : Stmt := topS 7
theorem sc__law_pop : FnScope ["_law_d", "_law_row"] ["_law_d", "_law_row"] (defScope s__law_pop) := ⟨rfl, rfl, rfl, by decide +kernel, rfl, by decide +kernel, by decide +kernel⟩

abbrev s__law_rare : Stmt := topS 8
theorem sc__law_rare : FnScope ["_law_d", "_law_many"] ["_law_d", "_law_many"] (defScope s__law_rare) := ⟨rfl, rfl, rfl, by decide +kernel, rfl, by decide +kernel, by decide +kernel⟩

abbrev s__law_pool : Stmt := topS 9
theorem sc__law_pool : FnScope ["_law_text"] [] (defScope s__law_pool) := ⟨rfl, rfl, rfl, by decide +kernel, rfl, by decide +kernel, by decide +kernel⟩

abbrev s__law_leaf : Stmt := topS 10
theorem sc__law_leaf : FnScope ["_law_d", "_law_env", "_law_width", "_law_names", "_law_row", "_law_way"] ["_law_d", "_law_env", "_law_width"] (defScope s__law_leaf) := ⟨rfl, rfl, rfl, by decide +kernel, rfl, by decide +kernel, by decide +kernel⟩

abbrev s__law_expr : Stmt := topS 11
theorem sc__law_expr : FnScope ["_law_d", "_law_env", "_law_width", "_law_depth", "_law_way", "_law_items", "_law_row", "_law_fields", "_law_ops"] ["_law_d", "_law_env", "_law_width", "_law_depth"] (defScope s__law_expr) := ⟨rfl, rfl, rfl, by decide +kernel, rfl, by decide +kernel, by decide +kernel⟩

abbrev s__law_relation : Stmt := topS 12
theorem sc__law_relation : FnScope ["_law_d", "_law_env", "_law_depth", "_law_other", "_law_width", "_law_op"] ["_law_d", "_law_env", "_law_depth"] (defScope s__law_relation) := ⟨rfl, rfl, rfl, by decide +kernel, rfl, by decide +kernel, by decide +kernel⟩

abbrev s__law_block : Stmt := topS 13
theorem sc__law_block : FnScope ["_law_d", "_law_env", "_law_depth", "_law_many", "_law_k"] ["_law_d", "_law_env", "_law_depth", "_law_many"] (defScope s__law_block) := ⟨rfl, rfl, rfl, by decide +kernel, rfl, by decide +kernel, by decide +kernel⟩

abbrev s__law_loop : Stmt := topS 14
theorem sc__law_loop : FnScope ["_law_d", "_law_env", "_law_row", "_law_block_here", "_law_name", "_law_step", "_law_test"] ["_law_d", "_law_env", "_law_row", "_law_block_here"] (defScope s__law_loop) := ⟨rfl, rfl, rfl, by decide +kernel, rfl, by decide +kernel, by decide +kernel⟩

abbrev s__law_statement : Stmt := topS 15
theorem sc__law_statement : FnScope ["_law_d", "_law_env", "_law_depth", "_law_way", "_law_row", "_law_other", "_law_block_here", "_law_part", "_law_args", "_law_param", "_law_targets", "_law_var", "_law_item", "_law_place"] ["_law_d", "_law_env", "_law_depth"] (defScope s__law_statement) := ⟨rfl, rfl, rfl, by decide +kernel, rfl, by decide +kernel, by decide +kernel⟩

abbrev s__law_reference : Stmt := topS 16
theorem sc__law_reference : FnScope ["_law_d", "_law_env", "_law_name", "_law_other", "_law_row", "_law_put", "_law_link", "_law_step", "_law_make"] ["_law_d", "_law_env"] (defScope s__law_reference) := ⟨rfl, rfl, rfl, by decide +kernel, rfl, by decide +kernel, by decide +kernel⟩

abbrev s__law_external : Stmt := topS 17
theorem sc__law_external : FnScope ["_law_d", "_law_pool_here", "_law_params", "_law_k", "_law_env", "_law_width", "_law_needs", "_law_sides", "_law_at", "_law_gives"] ["_law_d", "_law_pool_here"] (defScope s__law_external) := ⟨rfl, rfl, rfl, by decide +kernel, rfl, by decide +kernel, by decide +kernel⟩

abbrev s__law_function : Stmt := topS 18
theorem sc__law_function : FnScope ["_law_d", "_law_pool_here", "_law_entry", "_law_total", "_law_calls", "_law_shape", "_law_record", "_law_widths", "_law_params", "_law_width", "_law_rows", "_law_k", "_law_env", "_law_first", "_law_name", "_law_gives", "_law_body", "_law_local"] ["_law_d", "_law_pool_here", "_law_entry", "_law_total", "_law_calls", "_law_shape", "_law_record"] (defScope s__law_function) := ⟨rfl, rfl, rfl, by decide +kernel, rfl, by decide +kernel, by decide +kernel⟩

abbrev s__law_program : Stmt := topS 19
theorem sc__law_program : FnScope ["_law_d", "_law_shape", "_law_pool_here", "_law_calls", "_law_record", "_law_name", "_law_k", "_law_part", "_law_args", "_law_row", "_law_test", "_law_total", "_law_parts"] ["_law_d", "_law_shape"] (defScope s__law_program) := ⟨rfl, rfl, rfl, by decide +kernel, rfl, by decide +kernel, by decide +kernel⟩

abbrev s__law_more_entries : Stmt := topS 20
theorem sc__law_more_entries : FnScope ["_law_d", "_law_program_here", "_law_found", "_law_part"] ["_law_d", "_law_program_here"] (defScope s__law_more_entries) := ⟨rfl, rfl, rfl, by decide +kernel, rfl, by decide +kernel, by decide +kernel⟩

abbrev s__law_told_right : Stmt := topS 21
theorem sc__law_told_right : FnScope ["_law_program_here", "_law_names", "_law_part", "_law_told"] ["_law_program_here"] (defScope s__law_told_right) := ⟨rfl, rfl, rfl, by decide +kernel, rfl, by decide +kernel, by decide +kernel⟩

abbrev s_law : Stmt := topS 22
theorem sc_law : FnScope ["_law_script", "_law_d", "_law_program_here", "_law_entry", "_law_k"] ["_law_script"] (defScope s_law) := ⟨rfl, rfl, rfl, by decide +kernel, rfl, by decide +kernel, by decide +kernel⟩

structure Tx (mg : Str → Option Value) : Prop extends TDraw mg where
  z_isinstance : mg "isinstance" = none
  z_list : mg "list" = none
  z_min : mg "min" = none
  z_range : mg "range" = none
  z_tuple : mg "tuple" = none
section
variable {P : Program} {w : World} {K : PySem.W.Frag} {mg : Str → Option Value} {base : Heap}
/-- one of a row, by a draw -/
def spPick (K : PySem.W.Frag) : Sp := fun vs H Q _ => ∃ (d c a : Addr) (xs : List V), vs = [.ref d, .ref a] ∧ Drw H d c ∧
  a ≠ d ∧ SqL K H a xs ∧ xs ≠ [] ∧ xs.length ≤ 1000 ∧ ∀ x zs, x ∈ xs → Drw (upd H d (.lst zs)) d c → Q x (upd H d (.lst zs))
theorem ok_pick {f : Addr} {fd : FuncData} (F : Fun K "_law_pick" "_law_pick" s__law_pick f fd) (c__law_draw : Cal P w K mg base "_law_draw" 1 spDraw) (T : Tx mg) : FnOk P w K mg base CX0 2 f fd ["_law_d", "_law_row"] (spPick K) := by
  refine F.ok sc__law_pick (fun vs H Q E h => ?_) (fun cdv A outer s H vs Q E hr h => ?_)
  · obtain ⟨d, c, a, xs, rfl, _⟩ := h
    rfl
  · obtain ⟨d, c, a, xs, rfl, hD, nad, hS, hne, hl, q⟩ := h
    have hpos := List.length_pos_iff.mpr hne
    refine ⟨_, 
      (pss_one (ps_ret (pe_ix (r := rIxL K) ix_list (pv 1) (Zn.pe_cal c__law_draw (hr.mono (by decide)) (by rfl) (pa_cons (pv 0) (pa_cons (pe_callB call_len_seq (by rfl) T.z_len (by decide +kernel) (pa_cons (pv 1) pa_nil)) pa_nil))) (fun _ _ => rfl)))), ?_⟩
    walk_at "rs"
    refine ⟨d, c, _, rfl, hD, by omega, by omega, fun n zs n0 n1 D1 => ?_⟩
    have hj : n.toNat < xs.length := by omega
    refine r_ixL (v := xs[n.toNat]) ((keep_upd (d := d)).seq nad hS) (atI_lt (j := n.toNat) (by omega) (List.getElem?_eq_getElem hj)) ?_
    exact q _ _ (List.getElem_mem _) D1
theorem erase_map {α β : Type} (f : α → β) : ∀ (l : List α) (i : Nat), (l.map f).eraseIdx i = (l.eraseIdx i).map f
  | [], _ => rfl
  | _ :: _, 0 => rfl
  | x :: l, i + 1 => congrArg (f x :: ·) (erase_map f l i)
theorem erase_not {α : Type} : ∀ {l : List α} {i : Nat}, l.Nodup → (h : i < l.length) → l[i] ∉ l.eraseIdx i
  | x :: l, 0, n, _ => (List.nodup_cons.mp n).1
  | x :: l, i + 1, n, h => fun m => by
    have hi : i < l.length := Nat.lt_of_succ_lt_succ h
    rcases List.mem_cons.mp m with e | m
    · have e : l[i] = x := e
      exact (List.nodup_cons.mp n).1 (e ▸ List.getElem_mem hi)
    · exact erase_not (List.nodup_cons.mp n).2 hi m
/-- names that are still free -/
structure PoolAt (H : Hp) (pl : Addr) (ps : List Str) : Prop where
  at_ : H pl = some (.lst (ps.map V.str))
  nd : ps.Nodup
  ok : ∀ s ∈ ps, okB s = true
def spPop : Sp := fun vs H Q _ => ∃ (d c pl : Addr) (ps : List Str), vs = [.ref d, .ref pl] ∧ Drw H d c ∧ pl ≠ d ∧ pl ≠ c ∧ PoolAt H pl ps ∧ 1 ≤ ps.length ∧ ps.length ≤ 1000 ∧
  ∀ (H' : Hp) (s : Str) (qs : List Str), Kp [d, pl] H H' → Drw H' d c → PoolAt H' pl qs → s ∈ ps → s ∉ qs → (∀ x ∈ qs, x ∈ ps) → qs.length + 1 = ps.length → okB s = true → Q (.str s) H'
theorem ok_pop {f : Addr} {fd : FuncData} (F : Fun K "_law_pop" "_law_pop" s__law_pop f fd) (c__law_draw : Cal P w K mg base "_law_draw" 1 spDraw) (T : Tx mg) : FnOk P w K mg base CX0 2 f fd ["_law_d", "_law_row"] spPop := by
  refine F.ok sc__law_pop (fun vs H Q E h => ?_) (fun cdv A outer s H vs Q E hr h => ?_)
  · obtain ⟨d, c, a, xs, rfl, _⟩ := h
    rfl
  · obtain ⟨d, c, pl, ps, rfl, hD, npd, npc, ⟨hp, nd, ok⟩, h1, h2, q⟩ := h
    refine ⟨_, 
      (pss_one (ps_ret (pe_bm PySem.F.plainAttrs_list PySem.F.slot_list_pop PySem.F.type_list_pop mt_popAt (pv 1) (pa_cons (Zn.pe_cal c__law_draw (hr.mono (by decide)) (by rfl) (pa_cons (pv 0) (pa_cons (pe_callB call_len_seq (by rfl) T.z_len (by decide +kernel) (pa_cons (pv 1) pa_nil)) pa_nil))) pa_nil)))), ?_⟩
    walk_at "rs"
    refine ⟨d, c, _, rfl, hD, by rw [List.length_map]; omega, by rw [List.length_map]; omega, fun n zs n0 n1 D1 => ?_⟩
    rw [List.length_map] at n1
    have hj : n.toNat < ps.length := by omega
    have hp2 : upd H d (.lst zs) pl = some (.lst (ps.map V.str)) := (upd_ne npd).trans hp
    walk_at "rs"
    refine r_popAt hp2 n0 (by rw [List.length_map]; omega) (by rw [List.length_map]; omega) (y := .str ps[n.toNat]) (by rw [List.getElem?_map, List.getElem?_eq_getElem hj]; rfl) ?_
    have k0 : Kp [d, pl] H (upd H d (.lst zs)) := .drw hD (by simp)
    refine q _ _ (ps.eraseIdx n.toNat) (k0.set (by simp) hp2) (D1.upd npd.symm npc.symm) ⟨?_, nd.eraseIdx _, fun s hs => ok s (List.mem_of_mem_eraseIdx hs)⟩ (List.getElem_mem _) ?_ (fun x hx => List.mem_of_mem_eraseIdx hx) ?_ (ok _ (List.getElem_mem _))
    · rw [upd_same, erase_map]
    · exact erase_not nd hj
    · rw [List.length_eraseIdx_of_lt hj]
      omega
def spRare : Sp := fun vs H Q _ => ∃ (d c : Addr) (m : Int), vs = [.ref d, .int m] ∧ Drw H d c ∧ 1 ≤ m ∧ m < 1073741824 ∧ ∀ (b : Bool) (zs : List V), Drw (upd H d (.lst zs)) d c → Q (.bl b) (upd H d (.lst zs))
theorem ok_rare {f : Addr} {fd : FuncData} (F : Fun K "_law_rare" "_law_rare" s__law_rare f fd) (c__law_draw : Cal P w K mg base "_law_draw" 1 spDraw) (T : Tx mg) : FnOk P w K mg base CX0 2 f fd ["_law_d", "_law_many"] spRare := by
  refine F.ok sc__law_rare (fun vs H Q E h => ?_) (fun cdv A outer s H vs Q E hr h => ?_)
  · obtain ⟨d, c, r, rfl, _⟩ := h
    rfl
  · obtain ⟨d, c, m, rfl, hD, m0, m1, q⟩ := h
    refine ⟨_, 
      (pss_one (ps_ret (pe_cmpR op_eq (Zn.pe_cal c__law_draw (hr.mono (by decide)) (by rfl) (pa_cons (pv 0) (pa_cons (pv 1) pa_nil))) (pe_op op_fdiv (pv 1) pe_int) (nomark _)))), ?_⟩
    walk_at "rs"
    refine ⟨d, c, _, rfl, hD, m0, m1, fun n zs n0 n1 D1 => ?_⟩
    walk_at "rs"
    exact q _ _ D1
def spPool : Sp := fun vs H Q _ => vs = [] ∧ ∀ (H' : Hp) (p : Addr) (ps : List Str), Same H H' → H p = none → PoolAt H' p ps → 67 ≤ ps.length → ps.length ≤ 1000 → Q (.ref p) H'
theorem ok_pool {f : Addr} {fd : FuncData} (F : Fun K "_law_pool" "_law_pool" s__law_pool f fd) (T : Tx mg) : FnOk P w K mg base CX0 1 f fd [] spPool := by
  refine F.ok sc__law_pool (fun vs H Q E h => ?_) (fun cdv A outer s H vs Q E hr h => ?_)
  · obtain ⟨rfl, _⟩ := h
    rfl
  · obtain ⟨rfl, q⟩ := h
    refine ⟨_, 
      (pss_cons (ps_set (i := 0) sc__law_pool.nd rfl (Or.inl rfl) pe_str)
      (pss_cons (ps_set (i := 0) sc__law_pool.nd rfl (Or.inl rfl) (pe_op op_add_str (pv 0) pe_str))
      (pss_one (ps_ret (pe_bm PySem.F.plainAttrs_str PySem.F.slot_str_split PySem.F.type_str_split mt_split (pe_op op_add_str (pv 0) pe_str) (pa_cons pe_str pa_nil)))))), ?_⟩
    walk_at "rs"
    refine ⟨by decide +kernel, ?_⟩
    walk_at "rs"
    refine ⟨by decide +kernel, ?_⟩
    walk_at "rs"
    refine ⟨by decide +kernel, by decide +kernel, fun p hp => ?_⟩
    walk_at "rs"
    refine q _ p _ (same_new hp) hp ⟨upd_same, by decide +kernel, by decide +kernel⟩ (by decide +kernel) (by decide +kernel)
end
end Zn
namespace Zn
open PySem PySem.Spec PyProof.Rows L2 TL
def Row (H : Hp) (x : V) : Prop := ∃ p nm w, x = .ref p ∧ H p = some (.tup [.str nm, .int w]) ∧ okB nm = true ∧ 1 ≤ w ∧ w ≤ 8
def Item (H : Hp) (x : V) : Prop := ∃ p nm w k, x = .ref p ∧ H p = some (.tup [.str nm, .int w, .int k]) ∧ okB nm = true ∧ 1 ≤ w ∧ w ≤ 8
def Fld (H : Hp) (x : V) : Prop := ∃ p nm fn w, x = .ref p ∧ H p = some (.tup [.str nm, .str fn, .int w]) ∧ okB nm = true ∧ okB fn = true ∧ 1 ≤ w ∧ w ≤ 8
def Nm (x : V) : Prop := ∃ s, x = .str s ∧ okB s = true
def PartC (H : Hp) (x : V) : Prop := ∃ p a nm q w rest rs, x = .ref p ∧ H p = some (.tup (a :: .str nm :: .ref q :: .int w :: rest)) ∧ okB nm = true ∧ H q = some (.tup rs) ∧ rs.length ≤ 100 ∧ ∀ r ∈ rs, Row H r
structure EnvD where
  (r0 r1 r2 r3 r4 r5 r6 : Addr)
  (l0 l1 l2 l3 l4 l5 l6 : List V)
/-- what an expression is drawn from -/
structure EnvAt (S : List Addr) (H : Hp) (e : Addr) (g : EnvD) (k : Int) : Prop where
  at_ : H e = some (.lst [.ref g.r0, .ref g.r1, .ref g.r2, .ref g.r3, .ref g.r4, .ref g.r5, .ref g.r6, .int k])
  a0 : H g.r0 = some (.lst g.l0)
  a1 : H g.r1 = some (.lst g.l1)
  a2 : H g.r2 = some (.lst g.l2)
  a3 : H g.r3 = some (.lst g.l3)
  a4 : H g.r4 = some (.lst g.l4)
  a5 : H g.r5 = some (.lst g.l5)
  a6 : H g.r6 = some (.lst g.l6)
  n0 : g.r0 ∉ S
  n1 : g.r1 ∉ S
  n2 : g.r2 ∉ S
  n3 : g.r3 ∉ S
  n4 : g.r4 ∉ S
  n5 : g.r5 ∉ S
  n6 : g.r6 ∉ S
  p0 : ∀ x ∈ g.l0, Row H x
  p1 : ∀ x ∈ g.l1, Item H x
  p2 : ∀ x ∈ g.l2, Fld H x
  p3 : ∀ x ∈ g.l3, Nm x
  p4 : ∀ x ∈ g.l4, PartC H x
  p5 : ∀ x ∈ g.l5, Nm x
  p6 : g.l3 ≠ [] → g.l2 ≠ [] ∧ ∃ a b, g.l6 = [.str a, .str b] ∧ okB a = true ∧ okB b = true
  z0 : g.l0.length ≤ 100
  z1 : g.l1.length ≤ 100
  z2 : g.l2.length ≤ 100
  z3 : g.l3.length ≤ 100
  z4 : g.l4.length ≤ 100
  z5 : g.l5.length ≤ 100
theorem Row.kp {S : List Addr} {H H' : Hp} {x : V} (k : Kp S H H') (h : Row H x) : Row H' x := by
  obtain ⟨p, nm, w, e, hp, h⟩ := h
  exact ⟨p, nm, w, e, k.t _ _ hp, h⟩
theorem Item.kp {S : List Addr} {H H' : Hp} {x : V} (k : Kp S H H') (h : Item H x) : Item H' x := by
  obtain ⟨p, nm, w, i, e, hp, h⟩ := h
  exact ⟨p, nm, w, i, e, k.t _ _ hp, h⟩
theorem Fld.kp {S : List Addr} {H H' : Hp} {x : V} (k : Kp S H H') (h : Fld H x) : Fld H' x := by
  obtain ⟨p, nm, fn, w, e, hp, h⟩ := h
  exact ⟨p, nm, fn, w, e, k.t _ _ hp, h⟩
theorem PartC.kp {S : List Addr} {H H' : Hp} {x : V} (k : Kp S H H') (h : PartC H x) : PartC H' x := by
  obtain ⟨p, a, nm, q, w, rest, rs, e, hp, h1, hq, h2, h3⟩ := h
  exact ⟨p, a, nm, q, w, rest, rs, e, k.t _ _ hp, h1, k.t _ _ hq, h2, fun r hr => (h3 r hr).kp k⟩
theorem EnvAt.kp {S S' : List Addr} {H H' : Hp} {e : Addr} {g : EnvD} {k : Int} (G : EnvAt S H e g k) (h : Kp S' H H') (ne : e ∉ S') (hs : ∀ b ∈ S', b ∈ S) : EnvAt S H' e g k :=
  { at_ := h.x _ _ ne G.at_, a0 := h.x _ _ (fun m => G.n0 (hs _ m)) G.a0, a1 := h.x _ _ (fun m => G.n1 (hs _ m)) G.a1, a2 := h.x _ _ (fun m => G.n2 (hs _ m)) G.a2, a3 := h.x _ _ (fun m => G.n3 (hs _ m)) G.a3,
    a4 := h.x _ _ (fun m => G.n4 (hs _ m)) G.a4, a5 := h.x _ _ (fun m => G.n5 (hs _ m)) G.a5, a6 := h.x _ _ (fun m => G.n6 (hs _ m)) G.a6,
    n0 := G.n0, n1 := G.n1, n2 := G.n2, n3 := G.n3, n4 := G.n4, n5 := G.n5, n6 := G.n6,
    p0 := fun x m => (G.p0 x m).kp h, p1 := fun x m => (G.p1 x m).kp h, p2 := fun x m => (G.p2 x m).kp h, p3 := G.p3, p4 := fun x m => (G.p4 x m).kp h, p5 := G.p5, p6 := G.p6,
    z0 := G.z0, z1 := G.z1, z2 := G.z2, z3 := G.z3, z4 := G.z4, z5 := G.z5 }
theorem EnvAt.put {S : List Addr} {H : Hp} {e : Addr} {g : EnvD} {k k' : Int} (G : EnvAt S H e g k) (he : e ∈ S) : EnvAt S (upd H e (.lst [.ref g.r0, .ref g.r1, .ref g.r2, .ref g.r3, .ref g.r4, .ref g.r5, .ref g.r6, .int k'])) e g k' := by
  have h : Kp [e] H (upd H e (.lst [.ref g.r0, .ref g.r1, .ref g.r2, .ref g.r3, .ref g.r4, .ref g.r5, .ref g.r6, .int k'])) := (Kp.refl _ _).set (by simp) G.at_
  have f : ∀ r, r ∉ S → r ∉ [e] := fun r n m => n (by rw [List.mem_singleton] at m; exact m ▸ he)
  exact
  { at_ := upd_same, a0 := h.x _ _ (f _ G.n0) G.a0, a1 := h.x _ _ (f _ G.n1) G.a1, a2 := h.x _ _ (f _ G.n2) G.a2, a3 := h.x _ _ (f _ G.n3) G.a3,
    a4 := h.x _ _ (f _ G.n4) G.a4, a5 := h.x _ _ (f _ G.n5) G.a5, a6 := h.x _ _ (f _ G.n6) G.a6,
    n0 := G.n0, n1 := G.n1, n2 := G.n2, n3 := G.n3, n4 := G.n4, n5 := G.n5, n6 := G.n6,
    p0 := fun x m => (G.p0 x m).kp h, p1 := fun x m => (G.p1 x m).kp h, p2 := fun x m => (G.p2 x m).kp h, p3 := G.p3, p4 := fun x m => (G.p4 x m).kp h, p5 := G.p5, p6 := G.p6,
    z0 := G.z0, z1 := G.z1, z2 := G.z2, z3 := G.z3, z4 := G.z4, z5 := G.z5 }
section
variable {P : Program} {w : World} {K : PySem.W.Frag} {mg : Str → Option Value} {base : Heap}
/-- a tree is told, only the drawer's list changes -/
def TellT (n : Nat) (S : List Addr) (d c : Addr) (H : Hp) (Q : VK) : Prop := ∀ H' v, Kp S H H' → Drw H' d c → Tree n H' v → Q v H'
def spLeaf : Sp := fun vs H Q _ => ∃ (d c e : Addr) (S : List Addr) (g : EnvD) (k w : Int), vs = [.ref d, .ref e, .int w] ∧ Drw H d c ∧ d ∈ S ∧ e ≠ d ∧ EnvAt S H e g k ∧ 1 ≤ w ∧ w ≤ 8 ∧ TellT 2 [d] d c H Q
theorem ok_leaf {f : Addr} {fd : FuncData} (F : Fun K "_law_leaf" "_law_leaf" s__law_leaf f fd) (c__law_draw : Cal P w K mg base "_law_draw" 1 spDraw) (c__law_pick : Cal P w K mg base "_law_pick" 2 (spPick K)) (T : Tx mg) : FnOk P w K mg base CX0 3 f fd ["_law_d", "_law_env", "_law_width"] spLeaf := by
  refine F.ok sc__law_leaf (fun vs H Q E h => ?_) (fun cdv A outer s H vs Q E hr h => ?_)
  · obtain ⟨d, c, e, S, g, k, w, rfl, _⟩ := h
    rfl
  · obtain ⟨d, c, e, S, g, k, w, rfl, hD, hd, ned, G, w1, w8, q⟩ := h
    refine ⟨_, 
      (pss_cons (ps_setLc (own := [("_law_row", 4)]) (i := 3) rfl sc__law_leaf.nd rfl rfl (sw_true rfl rfl rfl (by decide +kernel)) (pi_list (pe_ix (r := rIxL K) ix_list (pv 1) pe_int (fun _ _ => rfl))) (blkOk_by (N := ["_law_d", "_law_env", "_law_width", "_law_names", "_law_row", "_law_way"]) (sc := defScope s__law_leaf) (by decide +kernel)) (fun _ _ _ _ _ => (pg_name (i := 4) sc__law_leaf.nd rfl (Or.inl rfl))) (fun _ _ _ _ _ => (pts_one (pt_cmpR op_eq (pe_ix (r := rIxT K) ix_tup (pv 4) pe_int (fun _ _ => rfl)) (pv 2) (nomark _)))) (fun _ _ _ _ _ => (pe_ix (r := rIxT K) ix_tup (pv 4) pe_int (fun _ _ => rfl))))
      (pss_cons (ps_set (i := 5) sc__law_leaf.nd rfl (Or.inl rfl) (Zn.pe_cal c__law_draw (hr.mono (by decide)) (by rfl) (pa_cons (pv 0) (pa_cons pe_int pa_nil))))
      (pss_cons (ps_if (PW.pt (pw_and (pt_truth (pv 3) (by intro _; rfl)) (pw_and1 (pt_cmpR op_gt (pv 5) pe_int (nomark _))))) 
       (pss_one (ps_ret (pe_tup (pa_cons pe_str (pa_cons (Zn.pe_cal c__law_pick (hr.mono (by decide)) (by rfl) (pa_cons (pv 0) (pa_cons (pv 3) pa_nil))) pa_nil))))) pss_nil)
      (pss_cons (ps_if (PW.pt (pw_and (pt_truth (pe_ix (r := rIxL K) ix_list (pv 1) pe_int (fun _ _ => rfl)) (by intro _; rfl)) (pw_and1 (pt_cmpR op_eq (pv 5) pe_int (nomark _))))) 
       (pss_one (ps_ret (pe_tup (pa_cons pe_str (pa_cons (pe_tup (pa_cons pe_str (pa_cons (pe_ix (r := rIxT K) ix_tup (Zn.pe_cal c__law_pick (hr.mono (by decide)) (by rfl) (pa_cons (pv 0) (pa_cons (pe_ix (r := rIxL K) ix_list (pv 1) pe_int (fun _ _ => rfl)) pa_nil))) pe_int (fun _ _ => rfl)) pa_nil))) (pa_cons (pv 2) pa_nil)))))) pss_nil)
      (pss_one (ps_ret (pe_tup (pa_cons pe_str (pa_cons (Zn.pe_cal c__law_draw (hr.mono (by decide)) (by rfl) (pa_cons (pv 0) (pa_cons (pe_op op_shl pe_int (pv 2)) pa_nil))) (pa_cons (pv 2) pa_nil)))))))))), ?_⟩
    have ha := G.at_
    have hsm := small w1 w8
    have hp0 := pow2_pos w.toNat
    have hcp : CPow 1 w := ⟨by omega, by omega, by decide⟩
    walk_at "rs"
    refine r_ref ⟨_, sl_of G.a0⟩ fun C hC => ?_
    have nCd : C ≠ d := (hD.nd hC).symm
    refine lc_list (K := K) (a := g.r0) (xs := g.l0) (fun i H' => ∃ ns : List V, Same H H' ∧ H' C = some (.lst ns) ∧ ns.length ≤ i ∧ ∀ x ∈ ns, Nm x) ⟨[], same_new hC, upd_same, Nat.le_refl _, all_nil⟩ (fun i H' _ ⟨_, s, _⟩ => sl_of (s _ _ G.a0)) (fun i x H' hi ⟨ns, s, hn, hl, hx⟩ => ?_) (fun H1 ⟨ns, s1, hn, hl, hxn⟩ => ?_)
    · obtain ⟨p, nm, u, rfl, hp, ho, _⟩ := G.p0 x (List.mem_of_getElem? hi)
      have hi2 := (List.getElem?_eq_some_iff.mp hi).1
      have hz := G.z0
      have hp' := s _ _ hp
      walk_at "rs"
      refine ⟨rfl, ?_⟩
      walk_at "rs"
      refine ite2 (fun h => ?_) (fun h => ?_)
      · walk_at "rs"
        refine ⟨_, hn, Nat.lt_of_le_of_lt (show ns.length ≤ 1000 by omega) (by decide), ns ++ [.str nm], Same.mut s hC, upd_same, ?_, ?_⟩
        · rw [List.length_append, List.length_singleton]; omega
        · intro y hy
          rcases List.mem_append.mp hy with hy | hy
          · exact hx y hy
          · rw [List.mem_singleton] at hy
            exact ⟨nm, hy, ho⟩
      · exact ⟨ns, s, hn, by omega, hx⟩
    · have hz := G.z0
      walk_at "rs"
      refine ⟨d, c, _, rfl, hD.same s1, by decide, by decide, fun n zs n0 n1 D2 => ?_⟩
      refine r_gname ?_
      have k2 : Kp [d] H (upd H1 d (.lst zs)) := (Kp.same s1).trans (.drw (hD.same s1) (by simp))
      have hn2 : upd H1 d (.lst zs) C = some (.lst ns) := (upd_ne nCd).trans hn
      have G2 := G.kp k2 (by simpa using ned) (by simpa using hd)
      have ha2 := G2.at_
      have b0 := G2.a0
      have n0d : g.r0 ≠ d := fun e => G.n0 (e ▸ hd)
      refine seq_same ?_ (fun nx' hx => ?_)
      rotate_left
      · walk_at "rs"
        refine ite2 (fun h => ?_) (fun h => ?_)
        · walk_at "rs"
          refine ite2 (fun h2 => ?_) (fun h2 => ?_)
          · walk_at "rs"
            refine ⟨d, c, C, ns, rfl, D2, nCd, sl_of hn2, ne_nil h, by omega, fun x zs2 hx2 D3 => ?_⟩
            obtain ⟨nm, rfl, ho⟩ := hxn x hx2
            walk_at "rs"
            rename_i p hp
            exact q _ _ ((k2.trans (.drw D2 (by simp))).new hp) (D3.same (same_new hp)) ((Tree.tup (n := 0) hp (all_cons (.str (by decide +kernel)) (all_cons (.str ho) all_nil))).le (by decide))
          · walk_at "rs"
            exact hx
        · walk_at "rs"
          exact hx
      refine seq_same ?_ (fun nx' hx => ?_)
      rotate_left
      · walk_at "rs"
        refine ite2 (fun h => ?_) (fun h => ?_)
        · walk_at "rs"
          refine ite2 (fun h2 => ?_) (fun h2 => ?_)
          · walk_at "rs"
            refine ⟨d, c, g.r0, g.l0, rfl, D2, n0d, sl_of b0, ne_nil h, by omega, fun x zs2 hx2 D3 => ?_⟩
            obtain ⟨p0, nm, u, rfl, hp0, ho, _⟩ := G2.p0 x hx2
            have k3 := k2.trans (Kp.drw (zs := zs2) D2 (show d ∈ [d] by simp))
            have hp1 := (Kp.drw (zs := zs2) D2 (show d ∈ [d] by simp)).t _ _ hp0
            walk_at "rs"
            rename_i p hp p' hp'
            refine q _ _ ((k3.new hp).new hp') ((D3.same (same_new hp)).same (same_new hp')) (Tree.tup hp' (all_cons (.str (by decide +kernel)) (all_cons ?_ (all_cons .int all_nil))))
            exact Tree.tup (n := 0) hp (all_cons (.str (by decide +kernel)) (all_cons (.str ho) all_nil))
          · walk_at "rs"
            exact hx
        · walk_at "rs"
          exact hx
      walk_at "rs"
      refine ⟨d, c, _, rfl, D2, by omega, by omega, fun m zs2 m0 m1 D3 => ?_⟩
      walk_at "rs"
      rename_i p hp
      exact q _ _ ((k2.trans (.drw D2 (by simp))).new hp) (D3.same (same_new hp)) ((Tree.tup (n := 0) hp (all_cons (.str (by decide +kernel)) (all_cons .int (all_cons .int all_nil)))).le (by decide))
end
end Zn
namespace Zn
open PySem PySem.Spec PyProof.Rows L2 TL
theorem nm_of (ts : List Str) (h : ts.all okB = true) : ∀ x ∈ ts.map V.str, Nm x := fun x m => by
  obtain ⟨t, h1, h2⟩ := List.mem_map.mp m
  exact ⟨t, h2.symm, List.all_eq_true.mp h t h1⟩
theorem Tree.nm {n : Nat} {H : Hp} {x : V} (h : Nm x) : Tree n H x := by
  obtain ⟨s, rfl, ho⟩ := h
  exact .str ho
theorem seq_p {t1 t2 : TS} {D : Ends} {σ : L2.St} {H : Hp} (A : Prop) (h2 : A → t2 D σ H) (h1 : ∀ nx' : L2.St → Hp → Prop, (A → nx' σ H) → t1 { D with nx := nx' } σ H) : tSeq t1 t2 D σ H := h1 (t2 D) h2
section
variable {P : Program} {w : World} {K : PySem.W.Frag} {mg : Str → Option Value} {base : Heap}
def spExpr (n : Nat) : Sp := fun vs H Q _ => ∃ (d c e : Addr) (S : List Addr) (g : EnvD) (k w dep : Int), vs = [.ref d, .ref e, .int w, .int dep] ∧ Drw H d c ∧ d ∈ S ∧ e ≠ d ∧ EnvAt S H e g k ∧ 1 ≤ w ∧ w ≤ 8 ∧ 0 ≤ dep ∧ dep < n ∧ TellT (2 + 2 * n) [d] d c H Q
def spRel (n : Nat) : Sp := fun vs H Q _ => ∃ (d c e : Addr) (S : List Addr) (g : EnvD) (k dep : Int), vs = [.ref d, .ref e, .int dep] ∧ Drw H d c ∧ d ∈ S ∧ e ≠ d ∧ EnvAt S H e g k ∧ 0 ≤ dep ∧ dep < n ∧ TellT (3 + 2 * n) [d] d c H Q
theorem ok_expr (n : Nat) {f : Addr} {fd : FuncData} (F : Fun K "_law_expr" "_law_expr" s__law_expr f fd) (c__law_draw : Cal P w K mg base "_law_draw" 1 spDraw) (c__law_pick : Cal P w K mg base "_law_pick" 2 (spPick K)) (c__law_leaf : Cal P w K mg base "_law_leaf" 3 spLeaf)
    (c__law_expr : Cal P w K mg base "_law_expr" (2 * n + 4) (spExpr n)) (c__law_relation : Cal P w K mg base "_law_relation" (2 * n + 5) (spRel n)) (T : Tx mg) : FnOk P w K mg base CX0 (2 * n + 5 + 1) f fd ["_law_d", "_law_env", "_law_width", "_law_depth"] (spExpr (n + 1)) := by
  refine F.ok sc__law_expr (fun vs H Q E h => ?_) (fun cdv A outer s H vs Q E hr h => ?_)
  · obtain ⟨d, c, e, S, g, k, w, dep, rfl, _⟩ := h
    rfl
  · obtain ⟨d, c, e, S, g, k, w, dep, rfl, hD, hd, ned, G, w1, w8, dp0, dp1, q⟩ := h
    refine ⟨_, 
      (pss_cons (ps_set (i := 4) sc__law_expr.nd rfl (Or.inl rfl) (Zn.pe_cal c__law_draw (hr.mono (by omega)) (by rfl) (pa_cons (pv 0) (pa_cons pe_int pa_nil))))
      (pss_cons (ps_setLc (own := [("_law_row", 6)]) (i := 5) rfl sc__law_expr.nd rfl rfl (sw_true rfl rfl rfl (by decide +kernel)) (pi_list (pe_ix (r := rIxL K) ix_list (pv 1) pe_int (fun _ _ => rfl))) (blkOk_by (N := ["_law_d", "_law_env", "_law_width", "_law_depth", "_law_way", "_law_items", "_law_row", "_law_fields", "_law_ops"]) (sc := defScope s__law_expr) (by decide +kernel)) (fun _ _ _ _ _ => (pg_name (i := 6) sc__law_expr.nd rfl (Or.inl rfl))) (fun _ _ _ _ _ => (pts_one (pt_cmpR op_eq (pe_ix (r := rIxT K) ix_tup (pv 6) pe_int (fun _ _ => rfl)) (pv 2) (nomark _)))) (fun _ _ _ _ _ => (pe_ix (r := rIxT K) ix_tup (pv 6) pe_int (fun _ _ => rfl))))
      (pss_cons (ps_setLc (own := [("_law_row", 6)]) (i := 7) rfl sc__law_expr.nd rfl rfl (sw_true rfl rfl rfl (by decide +kernel)) (pi_list (pe_ix (r := rIxL K) ix_list (pv 1) pe_int (fun _ _ => rfl))) (blkOk_by (N := ["_law_d", "_law_env", "_law_width", "_law_depth", "_law_way", "_law_items", "_law_row", "_law_fields", "_law_ops"]) (sc := defScope s__law_expr) (by decide +kernel)) (fun _ _ _ _ _ => (pg_name (i := 6) sc__law_expr.nd rfl (Or.inl rfl))) (fun _ _ _ _ _ => (pts_one (pt_cmpR op_eq (pe_ix (r := rIxT K) ix_tup (pv 6) pe_int (fun _ _ => rfl)) (pv 2) (nomark _)))) (fun _ _ _ _ _ => (pe_tup (pa_cons pe_str (pa_cons (pe_ix (r := rIxT K) ix_tup (pv 6) pe_int (fun _ _ => rfl)) (pa_cons (pe_ix (r := rIxT K) ix_tup (pv 6) pe_int (fun _ _ => rfl)) pa_nil))))))
      (pss_cons (ps_if (PW.pt (pw_or (pt_cmpR op_eq (pv 3) pe_int (nomark _)) (pw_or1 (pt_cmpR op_lt (pv 4) pe_int (nomark _))))) 
       (pss_one (ps_ret (Zn.pe_cal c__law_leaf (hr.mono (by omega)) (by rfl) (pa_cons (pv 0) (pa_cons (pv 1) (pa_cons (pv 2) pa_nil)))))) pss_nil)
      (pss_cons (ps_if (PW.pt (pw_and (pt_cmpR op_eq (pv 2) pe_int (nomark _)) (pw_and1 (pt_cmpR op_lt (pv 4) pe_int (nomark _))))) 
       (pss_one (ps_ret (Zn.pe_cal c__law_relation (hr.mono (by omega)) (by rfl) (pa_cons (pv 0) (pa_cons (pv 1) (pa_cons (pe_op op_sub (pv 3) pe_int) pa_nil)))))) pss_nil)
      (pss_cons (ps_if (pt_cmpR op_eq (pv 4) pe_int (nomark _)) 
       (pss_one (ps_ret (pe_tup (pa_cons (Zn.pe_cal c__law_pick (hr.mono (by omega)) (by rfl) (pa_cons (pv 0) (pa_cons (pe_lst (pa_cons pe_str (pa_cons pe_str pa_nil))) pa_nil))) (pa_cons (Zn.pe_cal c__law_expr (hr.mono (by omega)) (by rfl) (pa_cons (pv 0) (pa_cons (pv 1) (pa_cons (pv 2) (pa_cons (pe_op op_sub (pv 3) pe_int) pa_nil))))) pa_nil))))) pss_nil)
      (pss_cons (ps_if (PW.pt (pw_and (pt_cmpR op_eq (pv 4) pe_int (nomark _)) (pw_and1 (pt_truth (pv 5) (by intro _; rfl))))) 
       (pss_one (ps_ret (pe_tup (pa_cons pe_str (pa_cons (Zn.pe_cal c__law_pick (hr.mono (by omega)) (by rfl) (pa_cons (pv 0) (pa_cons (pv 5) pa_nil))) (pa_cons (Zn.pe_cal c__law_leaf (hr.mono (by omega)) (by rfl) (pa_cons (pv 0) (pa_cons (pv 1) (pa_cons (pe_op op_add pe_int (Zn.pe_cal c__law_draw (hr.mono (by omega)) (by rfl) (pa_cons (pv 0) (pa_cons pe_int pa_nil)))) pa_nil)))) pa_nil)))))) pss_nil)
      (pss_cons (ps_if (PW.pt (pw_and (pt_cmpR op_eq (pv 4) pe_int (nomark _)) (pw_and1 (pt_truth (pv 7) (by intro _; rfl))))) 
       (pss_one (ps_ret (Zn.pe_cal c__law_pick (hr.mono (by omega)) (by rfl) (pa_cons (pv 0) (pa_cons (pv 7) pa_nil))))) pss_nil)
      (pss_cons (ps_if (pt_cmpR op_eq (pv 4) pe_int (nomark _)) 
       (pss_one (ps_ret (pe_tup (pa_cons pe_str (pa_cons (Zn.pe_cal c__law_relation (hr.mono (by omega)) (by rfl) (pa_cons (pv 0) (pa_cons (pv 1) (pa_cons pe_int pa_nil)))) (pa_cons (Zn.pe_cal c__law_leaf (hr.mono (by omega)) (by rfl) (pa_cons (pv 0) (pa_cons (pv 1) (pa_cons (pv 2) pa_nil)))) (pa_cons (Zn.pe_cal c__law_leaf (hr.mono (by omega)) (by rfl) (pa_cons (pv 0) (pa_cons (pv 1) (pa_cons (pv 2) pa_nil)))) pa_nil))))))) pss_nil)
      (pss_cons (ps_set (i := 8) sc__law_expr.nd rfl (Or.inl rfl) (pe_ifExp (pt_cmpR op_lt (pv 4) pe_int (nomark _)) (pe_lst (pa_cons pe_str (pa_cons pe_str (pa_cons pe_str (pa_cons pe_str (pa_cons pe_str (pa_cons pe_str (pa_cons pe_str pa_nil)))))))) (pe_lst (pa_cons pe_str (pa_cons pe_str (pa_cons pe_str (pa_cons pe_str pa_nil)))))))
      (pss_one (ps_ret (pe_tup (pa_cons (Zn.pe_cal c__law_pick (hr.mono (by omega)) (by rfl) (pa_cons (pv 0) (pa_cons (pv 8) pa_nil))) (pa_cons (Zn.pe_cal c__law_expr (hr.mono (by omega)) (by rfl) (pa_cons (pv 0) (pa_cons (pv 1) (pa_cons (pv 2) (pa_cons (pe_op op_sub (pv 3) pe_int) pa_nil))))) (pa_cons (Zn.pe_cal c__law_leaf (hr.mono (by omega)) (by rfl) (pa_cons (pv 0) (pa_cons (pv 1) (pa_cons (pv 2) pa_nil)))) pa_nil)))))))))))))))), ?_⟩
    have dd : d ∈ [d] := by simp
    have hne : e ∉ [d] := by simpa using ned
    have hS : ∀ b ∈ [d], b ∈ S := by simpa using hd
    walk_at "rs"
    refine ⟨d, c, _, rfl, hD, by decide, by decide, fun way zs way0 way1 D1 => ?_⟩
    have k1 : Kp [d] H (upd H d (.lst zs)) := .drw hD dd
    have G1 := G.kp k1 hne hS
    have ha := G1.at_
    walk_at "rs"
    refine r_ref ⟨_, sl_of G1.a1⟩ fun C1 hC1 => ?_
    have nC1d : C1 ≠ d := (D1.nd hC1).symm
    refine lc_list (K := K) (a := g.r1) (xs := g.l1) (fun i H' => ∃ ns : List V, Same (upd H d (.lst zs)) H' ∧ H' C1 = some (.lst ns) ∧ ns.length ≤ i ∧ ∀ x ∈ ns, Nm x) ⟨[], same_new hC1, upd_same, Nat.le_refl _, all_nil⟩ (fun i H' _ ⟨_, s, _⟩ => sl_of (s _ _ G1.a1)) (fun i x H' hi ⟨ns, s, hn, hl, hx⟩ => ?_) (fun H2 ⟨ns, s2, hn, hl, hxn⟩ => ?_)
    · obtain ⟨p, nm, u, u2, rfl, hp, ho, _⟩ := G1.p1 x (List.mem_of_getElem? hi)
      have hi2 := (List.getElem?_eq_some_iff.mp hi).1
      have hz := G1.z1
      have hp' := s _ _ hp
      walk_at "rs"
      refine ⟨rfl, ?_⟩
      walk_at "rs"
      refine ite2 (fun h => ?_) (fun h => ?_)
      · walk_at "rs"
        refine ⟨_, hn, Nat.lt_of_le_of_lt (show ns.length ≤ 1000 by omega) (by decide), ns ++ [.str nm], Same.mut s hC1, upd_same, ?_, ?_⟩
        · rw [List.length_append, List.length_singleton]; omega
        · intro y hy
          rcases List.mem_append.mp hy with hy | hy
          · exact hx y hy
          · rw [List.mem_singleton] at hy
            exact ⟨nm, hy, ho⟩
      · exact ⟨ns, s, hn, by omega, hx⟩
    have k2 := k1.trans (.same s2)
    have D2 := D1.same s2
    have G2 := G.kp k2 hne hS
    have ha2 := G2.at_
    walk_at "rs"
    refine r_ref ⟨_, sl_of G2.a2⟩ fun C2 hC2 => ?_
    have nC2d : C2 ≠ d := (D2.nd hC2).symm
    refine lc_list (K := K) (a := g.r2) (xs := g.l2) (fun i H' => ∃ fs : List V, Same H2 H' ∧ H' C2 = some (.lst fs) ∧ fs.length ≤ i ∧ ∀ x ∈ fs, Tree 1 H' x) ⟨[], same_new hC2, upd_same, Nat.le_refl _, all_nil⟩ (fun i H' _ ⟨_, s, _⟩ => sl_of (s _ _ G2.a2)) (fun i x H' hi ⟨fs, s, hn, hl, hx⟩ => ?_) (fun H3 ⟨fs, s3, hn3, hl3, hxf⟩ => ?_)
    · obtain ⟨p, nm, fn, u, rfl, hp, ho, hof, _⟩ := G2.p2 x (List.mem_of_getElem? hi)
      have hi2 := (List.getElem?_eq_some_iff.mp hi).1
      have hz := G2.z2
      have hp' := s _ _ hp
      walk_at "rs"
      refine ⟨rfl, ?_⟩
      walk_at "rs"
      refine ite2 (fun h => ?_) (fun h => ?_)
      · walk_at "rs"
        rename_i t ht
        have hn4 : upd H' t (.tup [.str "field", .str nm, .str fn]) C2 = some (.lst fs) := same_new ht _ _ hn
        have kk := (Kp.refl [C2] _).set (o := .lst (fs ++ [.ref t])) (by simp) hn4
        refine ⟨_, hn4, Nat.lt_of_le_of_lt (show fs.length ≤ 1000 by omega) (by decide), fs ++ [.ref t], Same.mut (s.trans (same_new ht)) hC2, upd_same, ?_, ?_⟩
        · rw [List.length_append, List.length_singleton]; omega
        · intro y hy
          rcases List.mem_append.mp hy with hy | hy
          · exact ((hx y hy).kp (.same (S := []) (same_new ht))).kp kk
          · rw [List.mem_singleton] at hy
            subst hy
            exact (Tree.tup (n := 0) ht (all_cons (.str (by decide +kernel)) (all_cons (.str ho) (all_cons (.str hof) all_nil)))).kp kk
      · exact ⟨fs, s, hn, by omega, hx⟩
    have k3 := k2.trans (.same s3)
    have D3 := D2.same s3
    have G3 := G.kp k3 hne hS
    have hn3' := s3 _ _ hn
    refine seq_p (1 ≤ dep) (fun hdep => ?_) (fun nx' hx => ?_)
    rotate_left
    · -- the end of the recursion
      walk_at "rs"
      refine ite2 (fun h => ?_) (fun h => ?_)
      · walk_at "rs"
        exact ⟨d, c, e, S, g, k, w, rfl, D3, hd, ned, G3, w1, w8, fun H' v k' D' t => q _ _ (k3.trans k') D' (t.le (by omega))⟩
      · walk_at "rs"
        refine ite2 (fun h2 => ?_) (fun h2 => ?_)
        · walk_at "rs"
          exact ⟨d, c, e, S, g, k, w, rfl, D3, hd, ned, G3, w1, w8, fun H' v k' D' t => q _ _ (k3.trans k') D' (t.le (by omega))⟩
        · walk_at "rs"
          have h : ¬ dep = 0 := fun e0 => h (by rw [e0]; rfl)
          exact hx (by omega)
    have TT : TellT (2 + 2 * (n + 1)) [d] d c H3 Q := fun H' v k' D' t => q _ _ (k3.trans k') D' t
    have CE : ∀ H4 w' Q', Kp [d] H3 H4 → Drw H4 d c → 1 ≤ w' → w' ≤ 8 → TellT (2 + 2 * n) [d] d c H4 Q' → spExpr n [.ref d, .ref e, .int w', .int (dep - 1)] H4 Q' E0 := fun H4 w' Q' k4 D4 u1 u8 q' =>
      ⟨d, c, e, S, g, k, w', dep - 1, rfl, D4, hd, ned, G3.kp k4 hne hS, u1, u8, by omega, by omega, q'⟩
    have CL : ∀ H4 w' Q', Kp [d] H3 H4 → Drw H4 d c → 1 ≤ w' → w' ≤ 8 → TellT 2 [d] d c H4 Q' → spLeaf [.ref d, .ref e, .int w'] H4 Q' E0 := fun H4 w' Q' k4 D4 u1 u8 q' =>
      ⟨d, c, e, S, g, k, w', rfl, D4, hd, ned, G3.kp k4 hne hS, u1, u8, q'⟩
    have CR : ∀ H4 i Q', Kp [d] H3 H4 → Drw H4 d c → 0 ≤ i → i ≤ dep - 1 → TellT (3 + 2 * n) [d] d c H4 Q' → spRel n [.ref d, .ref e, .int i] H4 Q' E0 := fun H4 i Q' k4 D4 u1 u8 q' =>
      ⟨d, c, e, S, g, k, i, rfl, D4, hd, ned, G3.kp k4 hne hS, u1, by omega, q'⟩
    have CP : ∀ H4 a xs Q', Drw H4 d c → a ≠ d → H4 a = some (.lst xs) → xs ≠ [] → xs.length ≤ 1000 → (∀ x ∈ xs, ∀ H5, Kp [d] H4 H5 → Drw H5 d c → Q' x H5) → spPick K [.ref d, .ref a] H4 Q' E0 := fun H4 a xs Q' D4 na ha hne hl q' =>
      ⟨d, c, a, xs, rfl, D4, na, sl_of ha, hne, hl, fun x zs' hx D5 => q' x hx _ (.drw D4 dd) D5⟩
    refine seq_same ?_ (fun nx' hx => ?_)
    rotate_left
    · walk_at "rs"
      refine ite2 (fun h => ?_) (fun h => ?_)
      · walk_at "rs"
        refine ite2 (fun h2 => ?_) (fun h2 => ?_)
        · walk_at "rs"
          exact CR _ _ _ (.refl _ _) D3 (by omega) (by omega) fun H' v k' D' t => TT _ _ k' D' (t.le (by omega))
        · walk_at "rs"
          exact hx
      · walk_at "rs"
        exact hx
    refine seq_same ?_ (fun nx' hx => ?_)
    rotate_left
    · walk_at "rs"
      refine ite2 (fun h => ?_) (fun h => ?_)
      · walk_at "rs"
        rename_i p hp
        refine CP _ p _ _ (D3.same (same_new hp)) (D3.nd hp).symm upd_same (by simp) (by decide) fun x hx5 H5 k5 D5 => ?_
        have hnm := nm_of ["not", "neg"] (by decide +kernel) x hx5
        walk_at "rs"
        have k6 := ((Kp.refl [d] H3).new (o := .lst [.str "not", .str "neg"]) hp).trans k5
        refine CE _ _ _ k6 D5 w1 w8 fun H7 v k7 D7 t => ?_
        walk_at "rs"
        rename_i p2 hp2
        exact TT _ _ ((k6.trans k7).new hp2) (D7.same (same_new hp2)) ((Tree.tup hp2 (all_cons (.nm hnm) (all_cons t all_nil))).le (by omega))
      · walk_at "rs"
        exact hx
    have z1 := G.z1
    have z2 := G.z2
    refine seq_same ?_ (fun nx' hx => ?_)
    rotate_left
    · walk_at "rs"
      refine ite2 (fun h => ?_) (fun h => ?_)
      · walk_at "rs"
        refine ite2 (fun h2 => ?_) (fun h2 => ?_)
        · walk_at "rs"
          refine CP _ C1 _ _ D3 nC1d hn3' (ne_nil h2) (by omega) fun x hx5 H5 k5 D5 => ?_
          have hnm := hxn x hx5
          walk_at "rs"
          refine ⟨d, c, _, rfl, D5, by decide, by decide, fun u zs5 u0 u1 D6 => ?_⟩
          have k6 := k5.trans (Kp.drw (zs := zs5) D5 dd)
          walk_at "rs"
          refine CL _ _ _ k6 D6 (by omega) (by omega) fun H7 v k7 D7 t => ?_
          walk_at "rs"
          rename_i p2 hp2
          exact TT _ _ ((k6.trans k7).new hp2) (D7.same (same_new hp2)) ((Tree.tup hp2 (all_cons (.str (by decide +kernel)) (all_cons (.nm hnm) (all_cons t all_nil)))).le (by omega))
        · walk_at "rs"
          exact hx
      · walk_at "rs"
        exact hx
    refine seq_same ?_ (fun nx' hx => ?_)
    rotate_left
    · walk_at "rs"
      refine ite2 (fun h => ?_) (fun h => ?_)
      · walk_at "rs"
        refine ite2 (fun h2 => ?_) (fun h2 => ?_)
        · walk_at "rs"
          refine CP _ C2 _ _ D3 nC2d hn3 (ne_nil h2) (by omega) fun x hx5 H5 k5 D5 => ?_
          exact TT _ _ k5 D5 (((hxf x hx5).kp k5).le (by omega))
        · walk_at "rs"
          exact hx
      · walk_at "rs"
        exact hx
    refine seq_same ?_ (fun nx' hx => ?_)
    rotate_left
    · walk_at "rs"
      refine ite2 (fun h => ?_) (fun h => ?_)
      · walk_at "rs"
        refine CR _ _ _ (.refl _ _) D3 (by omega) (by omega) fun H5 v k5 D5 t => ?_
        walk_at "rs"
        refine CL _ _ _ k5 D5 w1 w8 fun H6 v6 k6 D6 t6 => ?_
        walk_at "rs"
        refine CL _ _ _ (k5.trans k6) D6 w1 w8 fun H7 v7 k7 D7 t7 => ?_
        walk_at "rs"
        rename_i p2 hp2
        exact TT _ _ (((k5.trans k6).trans k7).new hp2) (D7.same (same_new hp2)) ((Tree.tup hp2 (all_cons (.str (by decide +kernel)) (all_cons ((t.kp k6).kp k7) (all_cons ((t6.kp k7).le (by omega)) (all_cons (t7.le (by omega)) all_nil))))).le (by omega))
      · walk_at "rs"
        exact hx
    have last : ∀ (p : Addr) (ts : List Str), H3 p = none → ts ≠ [] → ts.length ≤ 100 → ts.all okB = true → ∀ Q' : VK, (∀ x H5, Nm x → Kp [d] H3 H5 → Drw H5 d c → Q' x H5) → spPick K [.ref d, .ref p] (upd H3 p (.lst (ts.map V.str))) Q' E0 := fun p ts hp hne hl hok Q' q' =>
      CP _ p _ _ (D3.same (same_new hp)) (D3.nd hp).symm upd_same (by simpa using hne) (by rw [List.length_map]; omega) fun x hx5 H5 k5 D5 => q' x H5 (nm_of ts hok x hx5) (((Kp.refl [d] H3).new hp).trans k5) D5
    walk_at "rs"
    refine ite2 (fun h => ?_) (fun h => ?_)
    · walk_at "rs"
      rename_i p hp
      refine last p ["+", "-", "+", "&", "|", "^", "*"] hp (by simp) (by decide) (by decide +kernel) _ fun x H5 hnm k5 D5 => ?_
      walk_at "rs"
      refine CE _ _ _ k5 D5 w1 w8 fun H6 v6 k6 D6 t6 => ?_
      walk_at "rs"
      refine CL _ _ _ (k5.trans k6) D6 w1 w8 fun H7 v7 k7 D7 t7 => ?_
      walk_at "rs"
      rename_i p2 hp2
      exact TT _ _ (((k5.trans k6).trans k7).new hp2) (D7.same (same_new hp2)) ((Tree.tup hp2 (all_cons (.nm hnm) (all_cons (t6.kp k7) (all_cons (t7.le (by omega)) all_nil)))).le (by omega))
    · walk_at "rs"
      rename_i p hp
      refine last p ["<<", ">>", "div", "rem"] hp (by simp) (by decide) (by decide +kernel) _ fun x H5 hnm k5 D5 => ?_
      walk_at "rs"
      refine CE _ _ _ k5 D5 w1 w8 fun H6 v6 k6 D6 t6 => ?_
      walk_at "rs"
      refine CL _ _ _ (k5.trans k6) D6 w1 w8 fun H7 v7 k7 D7 t7 => ?_
      walk_at "rs"
      rename_i p2 hp2
      exact TT _ _ (((k5.trans k6).trans k7).new hp2) (D7.same (same_new hp2)) ((Tree.tup hp2 (all_cons (.nm hnm) (all_cons (t6.kp k7) (all_cons (t7.le (by omega)) all_nil)))).le (by omega))
end
end Zn
namespace Zn
open PySem PySem.Spec PyProof.Rows L2 TL
section
variable {P : Program} {w : World} {K : PySem.W.Frag} {mg : Str → Option Value} {base : Heap}
theorem seq_nx {t1 t2 : TS} {D : Ends} {σ : L2.St} {H : Hp} (Post : L2.St → Hp → Prop) (h2 : ∀ σ' H', Post σ' H' → t2 D σ' H') (h1 : ∀ nx', (∀ σ' H', Post σ' H' → nx' σ' H') → t1 { D with nx := nx' } σ H) : tSeq t1 t2 D σ H := h1 (t2 D) h2
theorem ok_relation (n : Nat) {f : Addr} {fd : FuncData} (F : Fun K "_law_relation" "_law_relation" s__law_relation f fd) (c__law_draw : Cal P w K mg base "_law_draw" 1 spDraw) (c__law_pick : Cal P w K mg base "_law_pick" 2 (spPick K)) (c__law_leaf : Cal P w K mg base "_law_leaf" 3 spLeaf)
    (c__law_expr : Cal P w K mg base "_law_expr" (2 * n + 4) (spExpr n)) (T : Tx mg) : FnOk P w K mg base CX0 (2 * n + 4 + 1) f fd ["_law_d", "_law_env", "_law_depth"] (spRel n) := by
  refine F.ok sc__law_relation (fun vs H Q E h => ?_) (fun cdv A outer s H vs Q E hr h => ?_)
  · obtain ⟨d, c, e, S, g, k, dep, rfl, _⟩ := h
    rfl
  · obtain ⟨d, c, e, S, g, k, dep, rfl, hD, hd, ned, G, dp0, dp1, q⟩ := h
    refine ⟨_, 
      (pss_cons (ps_if (PW.pt (pw_and (pt_truth (pe_ix (r := rIxL K) ix_list (pv 1) pe_int (fun _ _ => rfl)) (by intro _; rfl)) (pw_and1 (pt_cmpR op_eq (Zn.pe_cal c__law_draw (hr.mono (by omega)) (by rfl) (pa_cons (pv 0) (pa_cons pe_int pa_nil))) pe_int (nomark _))))) 
       (pss_cons (ps_set (i := 3) sc__law_relation.nd rfl (Or.inl rfl) (pe_ifExp (pt_truth (Zn.pe_cal c__law_draw (hr.mono (by omega)) (by rfl) (pa_cons (pv 0) (pa_cons pe_int pa_nil))) (by intro _; rfl)) (pe_tup (pa_cons pe_str (pa_cons (Zn.pe_cal c__law_pick (hr.mono (by omega)) (by rfl) (pa_cons (pv 0) (pa_cons (pe_ix (r := rIxL K) ix_list (pv 1) pe_int (fun _ _ => rfl)) pa_nil))) pa_nil))) (pe_tup (pa_cons pe_str pa_nil))))
       (pss_one (ps_ret (pe_tup (pa_cons (Zn.pe_cal c__law_pick (hr.mono (by omega)) (by rfl) (pa_cons (pv 0) (pa_cons (pe_lst (pa_cons pe_str (pa_cons pe_str pa_nil))) pa_nil))) (pa_cons (pe_tup (pa_cons pe_str (pa_cons (Zn.pe_cal c__law_pick (hr.mono (by omega)) (by rfl) (pa_cons (pv 0) (pa_cons (pe_ix (r := rIxL K) ix_list (pv 1) pe_int (fun _ _ => rfl)) pa_nil))) pa_nil))) (pa_cons (pv 3) pa_nil))))))) pss_nil)
      (pss_cons (ps_set (i := 4) sc__law_relation.nd rfl (Or.inl rfl) (pe_ifExp (pt_truth (pe_ix (r := rIxL K) ix_list (pv 1) pe_int (fun _ _ => rfl)) (by intro _; rfl)) (pe_ix (r := rIxT K) ix_tup (Zn.pe_cal c__law_pick (hr.mono (by omega)) (by rfl) (pa_cons (pv 0) (pa_cons (pe_ix (r := rIxL K) ix_list (pv 1) pe_int (fun _ _ => rfl)) pa_nil))) pe_int (fun _ _ => rfl)) (pe_op op_add pe_int (Zn.pe_cal c__law_draw (hr.mono (by omega)) (by rfl) (pa_cons (pv 0) (pa_cons pe_int pa_nil))))))
      (pss_cons (ps_set (i := 5) sc__law_relation.nd rfl (Or.inl rfl) (Zn.pe_cal c__law_pick (hr.mono (by omega)) (by rfl) (pa_cons (pv 0) (pa_cons (pe_lst (pa_cons pe_str (pa_cons pe_str (pa_cons pe_str (pa_cons pe_str (pa_cons pe_str (pa_cons pe_str pa_nil))))))) pa_nil))))
      (pss_one (ps_ret (pe_tup (pa_cons (pv 5) (pa_cons (Zn.pe_cal c__law_expr (hr.mono (by omega)) (by rfl) (pa_cons (pv 0) (pa_cons (pv 1) (pa_cons (pv 4) (pa_cons (pv 2) pa_nil))))) (pa_cons (Zn.pe_cal c__law_leaf (hr.mono (by omega)) (by rfl) (pa_cons (pv 0) (pa_cons (pv 1) (pa_cons (pv 4) pa_nil)))) pa_nil))))))))), ?_⟩
    have dd : d ∈ [d] := by simp
    have hne : e ∉ [d] := by simpa using ned
    have hS : ∀ b ∈ [d], b ∈ S := by simpa using hd
    have ha := G.at_
    have b3 := G.a3
    have n3d : g.r3 ≠ d := fun e => G.n3 (e ▸ hd)
    have n0d : g.r0 ≠ d := fun e => G.n0 (e ▸ hd)
    have z3 := G.z3
    have z0 := G.z0
    have CP : ∀ H4 a xs Q', Drw H4 d c → a ≠ d → H4 a = some (.lst xs) → xs ≠ [] → xs.length ≤ 1000 → (∀ x ∈ xs, ∀ H5, Kp [d] H4 H5 → Drw H5 d c → Q' x H5) → spPick K [.ref d, .ref a] H4 Q' E0 := fun H4 a xs Q' D4 na ha hne hl q' =>
      ⟨d, c, a, xs, rfl, D4, na, sl_of ha, hne, hl, fun x zs' hx D5 => q' x hx _ (.drw D4 dd) D5⟩
    have CS : ∀ H4 (p : Addr) (ts : List Str), Drw H4 d c → H4 p = none → ts ≠ [] → ts.length ≤ 100 → ts.all okB = true → ∀ Q' : VK, (∀ x H5, Nm x → Kp [d] H4 H5 → Drw H5 d c → Q' x H5) → spPick K [.ref d, .ref p] (upd H4 p (.lst (ts.map V.str))) Q' E0 := fun H4 p ts D4 hp hne hl hok Q' q' =>
      CP _ p _ _ (D4.same (same_new hp)) (D4.nd hp).symm upd_same (by simpa using hne) (by rw [List.length_map]; omega) fun x hx5 H5 k5 D5 => q' x H5 (nm_of ts hok x hx5) (((Kp.refl [d] H4).new hp).trans k5) D5
    refine seq_nx (fun σ H' => σ = [some (.ref d), some (.ref e), some (.int dep), none, none, none] ∧ Kp [d] H H' ∧ Drw H' d c) ?_ (fun nx' hx => ?_)
    rotate_left
    · walk_at "rs"
      refine ite2 (fun h => ?_) (fun h => ?_)
      · walk_at "rs"
        refine ⟨d, c, _, rfl, hD, by decide, by decide, fun u zs u0 u1 D1 => ?_⟩
        have k1 : Kp [d] H (upd H d (.lst zs)) := .drw hD dd
        have G1 := G.kp k1 hne hS
        have ha1 := G1.at_
        walk_at "rs"
        refine ite2 (fun h2 => ?_) (fun h2 => ?_)
        · refine seq_nx (fun σ H' => ∃ o, σ = [some (.ref d), some (.ref e), some (.int dep), some o, none, none] ∧ Kp [d] H H' ∧ Drw H' d c ∧ Tree 1 H' o) ?_ (fun nx2 hx2 => ?_)
          · rintro σ H2 ⟨o, rfl, k2, D2, t2⟩
            have G2 := G.kp k2 hne hS
            have ha2 := G2.at_
            walk_at "rs"
            rename_i p hp
            refine CS H2 p ["==", "!="] D2 hp (by simp) (by decide) (by decide +kernel) _ fun x H5 hnm k5 D5 => ?_
            have k3 := k2.trans k5
            have G3 := G.kp k3 hne hS
            have ha3 := G3.at_
            walk_at "rs"
            refine CP _ g.r3 g.l3 _ D5 n3d G3.a3 (ne_nil h) (by omega) fun x6 hx6 H6 k6 D6 => ?_
            have hnm6 := G.p3 x6 hx6
            walk_at "rs"
            rename_i p2 hp2 p3 hp3
            refine q _ _ (((k3.trans k6).new hp2).new hp3) ((D6.same (same_new hp2)).same (same_new hp3)) ((Tree.tup (n := 1) hp3 (all_cons (.nm hnm) (all_cons (Tree.tup (n := 0) hp2 (all_cons (.str (by decide +kernel)) (all_cons (.nm hnm6) all_nil))) (all_cons ((((t2.kp k5).kp k6)).kp (.same (S := []) (same_new hp2))) all_nil)))).le (by omega))
          · walk_at "rs"
            refine ⟨d, c, _, rfl, D1, by decide, by decide, fun m zs2 m0 m1 D2 => ?_⟩
            have k2 := k1.trans (Kp.drw (zs := zs2) D1 dd)
            have G2 := G.kp k2 hne hS
            have ha2 := G2.at_
            walk_at "rs"
            refine ite2 (fun h3 => ?_) (fun h3 => ?_)
            · walk_at "rs"
              refine CP _ g.r3 g.l3 _ D2 n3d G2.a3 (ne_nil h) (by omega) fun x6 hx6 H6 k6 D6 => ?_
              have hnm6 := G.p3 x6 hx6
              walk_at "rs"
              rename_i p2 hp2
              exact hx2 _ _ ⟨_, rfl, (k2.trans k6).new hp2, D6.same (same_new hp2), Tree.tup (n := 0) hp2 (all_cons (.str (by decide +kernel)) (all_cons (.nm hnm6) all_nil))⟩
            · walk_at "rs"
              rename_i p2 hp2
              exact hx2 _ _ ⟨_, rfl, k2.new hp2, D2.same (same_new hp2), Tree.tup (n := 0) hp2 (all_cons (.str (by decide +kernel)) all_nil)⟩
        · walk_at "rs"
          exact hx _ _ ⟨rfl, k1, D1⟩
      · walk_at "rs"
        exact hx _ _ ⟨rfl, .refl _ _, hD⟩
    rintro σ H1 ⟨rfl, k1, D1⟩
    have G1 := G.kp k1 hne hS
    have ha1 := G1.at_
    have b0 := G1.a0
    refine seq_nx (fun σ H' => ∃ u : Int, σ = [some (.ref d), some (.ref e), some (.int dep), none, some (.int u), none] ∧ Kp [d] H H' ∧ Drw H' d c ∧ 1 ≤ u ∧ u ≤ 8) ?_ (fun nx' hx => ?_)
    rotate_left
    · walk_at "rs"
      refine ite2 (fun h => ?_) (fun h => ?_)
      · walk_at "rs"
        refine CP _ g.r0 g.l0 _ D1 n0d b0 (ne_nil h) (by omega) fun x6 hx6 H6 k6 D6 => ?_
        obtain ⟨p0, nm, u, rfl, hp0, ho, u1, u8⟩ := (G1.p0 x6 hx6).kp k6
        walk_at "rs"
        exact hx _ _ ⟨u, rfl, k1.trans k6, D6, u1, u8⟩
      · walk_at "rs"
        refine ⟨d, c, _, rfl, D1, by decide, by decide, fun m zs2 m0 m1 D2 => ?_⟩
        walk_at "rs"
        exact hx _ _ ⟨_, rfl, k1.trans (.drw D1 dd), D2, by omega, by omega⟩
    rintro σ H2 ⟨u, rfl, k2, D2, u1, u8⟩
    walk_at "rs"
    rename_i p hp
    refine CS H2 p ["==", "!=", "<", "<=", "<", "=="] D2 hp (by simp) (by decide) (by decide +kernel) _ fun x H5 hnm k5 D5 => ?_
    have k3 := k2.trans k5
    walk_at "rs"
    refine ⟨d, c, e, S, g, k, u, dep, rfl, D5, hd, ned, G.kp k3 hne hS, u1, u8, dp0, dp1, fun H6 v6 k6 D6 t6 => ?_⟩
    walk_at "rs"
    refine ⟨d, c, e, S, g, k, u, rfl, D6, hd, ned, G.kp (k3.trans k6) hne hS, u1, u8, fun H7 v7 k7 D7 t7 => ?_⟩
    walk_at "rs"
    rename_i p2 hp2
    exact q _ _ (((k3.trans k6).trans k7).new hp2) (D7.same (same_new hp2)) ((Tree.tup hp2 (all_cons (.nm hnm) (all_cons (t6.kp k7) (all_cons (t7.le (by omega)) all_nil)))).le (by omega))
end
end Zn
namespace Zn
open PySem PySem.Spec PyProof.Rows L2 TL
section
variable {P : Program} {w : World} {K : PySem.W.Frag} {mg : Str → Option Value} {base : Heap}
theorem Tree.row {n : Nat} {H : Hp} {x : V} (h : Row H x) : Tree (n + 1) H x := by
  obtain ⟨p, nm, w, rfl, hp, ho, _⟩ := h
  exact (Tree.mk (n := 0) hp (all_cons (.str ho) (all_cons .int all_nil))).le (by omega)
theorem mem_app {α : Type} {R : α → Prop} {xs ys : List α} (h1 : ∀ x ∈ xs, R x) (h2 : ∀ x ∈ ys, R x) : ∀ x ∈ xs ++ ys, R x := fun x m => (List.mem_append.mp m).elim (h1 x) (h2 x)
/-- two tuples behind each other: a tuple, the heap grows at most -/
theorem r_catT {H : Hp} {Q : VK} {a b : Addr} {xs ys : List V} (h1 : H a = some (.tup xs)) (h2 : H b = some (.tup ys)) (e : xs.length + ys.length ≤ sizeLine)
    (q : ∀ p H', Same H H' → H' p = some (.tup (xs ++ ys)) → Q (.ref p) H') : rCatA K (.ref a) (.ref b) H Q :=
  ⟨a, b, xs, ys, rfl, rfl, st_of h1, st_of h2, e, fun e1 => by subst e1; exact q b H (Same.refl _) h2, fun _ e2 => by subst e2; exact q a H (Same.refl _) (by rw [List.append_nil]; exact h1), fun _ _ p hp => q p _ (same_new hp) upd_same⟩
def spLoop : Sp := fun vs H Q _ => ∃ (d c e r b : Addr) (S : List Addr) (g : EnvD) (k : Int) (xs : List V) (m : Nat), vs = [.ref d, .ref e, .ref r, .ref b] ∧ Drw H d c ∧ d ∈ S ∧ e ≠ d ∧ EnvAt S H e g k ∧ Row H (.ref r) ∧ H b = some (.tup xs) ∧ xs.length ≤ 100 ∧
  (∀ x ∈ xs, Tree m H x) ∧ 3 ≤ m ∧ TellT (m + 2) [d] d c H Q
theorem ok_loop {f : Addr} {fd : FuncData} (F : Fun K "_law_loop" "_law_loop" s__law_loop f fd) (c__law_draw : Cal P w K mg base "_law_draw" 1 spDraw) (c__law_pick : Cal P w K mg base "_law_pick" 2 (spPick K)) (c__law_leaf : Cal P w K mg base "_law_leaf" 3 spLeaf) (T : Tx mg) :
    FnOk P w K mg base CX0 4 f fd ["_law_d", "_law_env", "_law_row", "_law_block_here"] spLoop := by
  refine F.ok sc__law_loop (fun vs H Q E h => ?_) (fun cdv A outer s H vs Q E hr h => ?_)
  · obtain ⟨d, c, e, r, b, S, g, k, xs, m, rfl, _⟩ := h
    rfl
  · obtain ⟨d, c, e, r, b, S, g, k, xs, m, rfl, hD, hd, ned, G, hrow, hb, hl, hx, hm, q⟩ := h
    refine ⟨_, 
      (pss_cons (ps_set (i := 4) sc__law_loop.nd rfl (Or.inl rfl) (pe_tup (pa_cons pe_str (pa_cons (pe_ix (r := rIxT K) ix_tup (pv 2) pe_int (fun _ _ => rfl)) pa_nil))))
      (pss_cons (ps_set (i := 5) sc__law_loop.nd rfl (Or.inl rfl) (pe_tup (pa_cons pe_str (pa_cons (pv 4) (pa_cons (pe_tup (pa_cons (Zn.pe_cal c__law_pick (hr.mono (by decide)) (by rfl) (pa_cons (pv 0) (pa_cons (pe_lst (pa_cons pe_str (pa_cons pe_str (pa_cons pe_str pa_nil)))) pa_nil))) (pa_cons (pv 4) (pa_cons (pe_tup (pa_cons pe_str (pa_cons pe_int (pa_cons (pe_ix (r := rIxT K) ix_tup (pv 2) pe_int (fun _ _ => rfl)) pa_nil)))) pa_nil)))) pa_nil)))))
      (pss_cons (ps_set (i := 6) sc__law_loop.nd rfl (Or.inl rfl) (pe_tup (pa_cons (Zn.pe_cal c__law_pick (hr.mono (by decide)) (by rfl) (pa_cons (pv 0) (pa_cons (pe_lst (pa_cons pe_str (pa_cons pe_str (pa_cons pe_str (pa_cons pe_str pa_nil))))) pa_nil))) (pa_cons (pv 4) (pa_cons (Zn.pe_cal c__law_leaf (hr.mono (by decide)) (by rfl) (pa_cons (pv 0) (pa_cons (pv 1) (pa_cons (pe_ix (r := rIxT K) ix_tup (pv 2) pe_int (fun _ _ => rfl)) pa_nil)))) pa_nil)))))
      (pss_one (ps_ret (pe_tup (pa_cons pe_str (pa_cons (pv 6) (pa_cons (pe_ifExp (pt_truth (Zn.pe_cal c__law_draw (hr.mono (by decide)) (by rfl) (pa_cons (pv 0) (pa_cons pe_int pa_nil))) (by intro _; rfl)) (pe_op (r := rCatA K) op_catA (pv 3) (pe_tup (pa_cons (pv 5) pa_nil))) (pv 3)) pa_nil))))))))), ?_⟩
    have dd : d ∈ [d] := by simp
    have hne : e ∉ [d] := by simpa using ned
    have hS : ∀ b ∈ [d], b ∈ S := by simpa using hd
    obtain ⟨r', nm, u, e1, hr1, ho, u1, u8⟩ := hrow
    cases e1
    have CS : ∀ H4 (p : Addr) (ts : List Str), Drw H4 d c → H4 p = none → ts ≠ [] → ts.length ≤ 100 → ts.all okB = true → ∀ Q' : VK, (∀ x H5, Nm x → Kp [d] H4 H5 → Drw H5 d c → Q' x H5) → spPick K [.ref d, .ref p] (upd H4 p (.lst (ts.map V.str))) Q' E0 := fun H4 p ts D4 hp hne hl hok Q' q' =>
      ⟨d, c, p, _, rfl, D4.same (same_new hp), (D4.nd hp).symm, sl_of upd_same, by simpa using hne, by rw [List.length_map]; omega, fun x zs' hx D5 => q' x _ (nm_of ts hok x hx) (((Kp.refl [d] H4).new hp).trans (.drw (D4.same (same_new hp)) dd)) D5⟩
    walk_at "rs"
    rename_i p1 hp1 p2 hp2
    have k2 : Kp [d] H (upd H p1 (.tup [.str "name", .str nm])) := (Kp.refl _ _).new hp1
    refine CS _ p2 ["+", "+", "-"] (hD.same (same_new hp1)) hp2 (by simp) (by decide) (by decide +kernel) _ fun x H3 hnm k3 D3 => ?_
    have k3' := k2.trans k3
    have hr3 := k3'.t _ _ hr1
    have hn3 := k3.t _ _ (show upd H p1 (.tup [.str "name", .str nm]) p1 = _ from upd_same)
    walk_at "rs"
    rename_i p4 hp4 p5 hp5 p6 hp6 p7 hp7
    have tn : Tree 1 H3 (.ref p1) := Tree.mk (n := 0) hn3 (all_cons (.str (by decide +kernel)) (all_cons (.str ho) all_nil))
    have t4 := Tree.tup (n := 0) (xs := [.str "word", .int 1, .int u]) hp4 (all_cons (.str (by decide +kernel)) (all_cons .int (all_cons .int all_nil)))
    have s4 : Same H3 _ := same_new (o := .tup [.str "word", .int 1, .int u]) hp4
    have t5 := Tree.tup (n := 1) (xs := [x, .ref p1, .ref p4]) hp5 (all_cons (.nm hnm) (all_cons ((tn.kp (.same (S := []) s4)).le (by omega)) (all_cons t4 all_nil)))
    have s5 : Same _ _ := s4.trans (same_new (o := .tup [x, .ref p1, .ref p4]) hp5)
    have t6 := Tree.tup (n := 2) (xs := [.str "let", .ref p1, .ref p5]) hp6 (all_cons (.str (by decide +kernel)) (all_cons ((tn.kp (.same (S := []) s5)).le (by omega)) (all_cons t5 all_nil)))
    have s6 : Same _ _ := s5.trans (same_new (o := .tup [.str "let", .ref p1, .ref p5]) hp6)
    refine CS _ p7 ["<", "!=", "<=", "<"] (D3.same s6) hp7 (by simp) (by decide) (by decide +kernel) _ fun y H8 hny k8 D8 => ?_
    have k9 := (k3'.trans (.same s6)).trans k8
    have hr8 := k9.t _ _ hr1
    walk_at "rs"
    refine ⟨d, c, e, S, g, k, u, rfl, D8, hd, ned, G.kp k9 hne hS, u1, u8, fun H10 v k10 D10 t10 => ?_⟩
    walk_at "rs"
    rename_i p11 hp11
    have k11 := (k9.trans k10).new (o := .tup [y, .ref p1, v]) hp11
    have k811 := (k8.trans k10).new (o := .tup [y, .ref p1, v]) hp11
    have t11 := Tree.tup (n := 2) (xs := [y, .ref p1, v]) hp11 (all_cons (.nm hny) (all_cons ((((tn.kp (.same (S := []) s6)).kp k8).kp k10).le (by omega)) (all_cons t10 all_nil)))
    have D11 := D10.same (same_new (o := .tup [y, .ref p1, v]) hp11)
    refine ⟨d, c, _, rfl, D11, by decide, by decide, fun z zs z0 z1 D12 => ?_⟩
    have kd := Kp.drw (zs := zs) D11 dd
    have k12 := k11.trans kd
    have hb12 := k12.t _ _ hb
    walk_at "rs"
    refine ite2 (fun h => ?_) (fun h => ?_)
    · walk_at "rs"
      rename_i p13 hp13
      have t6' := t6.kp (k811.trans kd)
      refine r_catT (same_new hp13 _ _ hb12) upd_same (len_ok (by simp; omega)) fun p14 H14 s14 hp14 => ?_
      walk_at "rs"
      rename_i p15 hp15
      have s15 : Same _ H14 := (same_new (o := .tup [.ref p6]) hp13).trans s14
      refine q _ _ ((k12.trans (.same s15)).new hp15) ((D12.same s15).same (same_new hp15)) (Tree.tup (n := m + 1) hp15 (all_cons (.str (by decide +kernel)) (all_cons (((t11.kp kd).kp (.same (S := []) s15)).le (by omega)) (all_cons ?_ all_nil))))
      exact Tree.mk hp14 (mem_app (fun x mx => ((hx x mx).kp k12).kp (.same (S := []) s15)) (all_cons ((t6'.kp (.same (S := []) s15)).le (by omega)) all_nil))
    · walk_at "rs"
      rename_i p15 hp15
      refine q _ _ (k12.new hp15) (D12.same (same_new hp15)) (Tree.tup (n := m + 1) hp15 (all_cons (.str (by decide +kernel)) (all_cons ((t11.kp kd).le (by omega)) (all_cons ?_ all_nil))))
      exact Tree.mk hb12 (fun x mx => (hx x mx).kp k12)
end
end Zn
namespace Zn
open PySem PySem.Spec PyProof.Rows L2 TL
section
variable {P : Program} {w : World} {K : PySem.W.Frag} {mg : Str → Option Value} {base : Heap}
def spRef : Sp := fun vs H Q _ => ∃ (d c e : Addr) (S : List Addr) (g : EnvD) (k : Int), vs = [.ref d, .ref e] ∧ Drw H d c ∧ d ∈ S ∧ e ≠ d ∧ EnvAt S H e g k ∧ g.l3 ≠ [] ∧ TellT 3 [d] d c H Q
theorem ok_reference {f : Addr} {fd : FuncData} (F : Fun K "_law_reference" "_law_reference" s__law_reference f fd) (c__law_draw : Cal P w K mg base "_law_draw" 1 spDraw) (c__law_pick : Cal P w K mg base "_law_pick" 2 (spPick K)) (c__law_leaf : Cal P w K mg base "_law_leaf" 3 spLeaf) (T : Tx mg) :
    FnOk P w K mg base CX0 4 f fd ["_law_d", "_law_env"] spRef := by
  refine F.ok sc__law_reference (fun vs H Q E h => ?_) (fun cdv A outer s H vs Q E hr h => ?_)
  · obtain ⟨d, c, e, S, g, k, rfl, _⟩ := h
    rfl
  · obtain ⟨d, c, e, S, g, k, rfl, hD, hd, ned, G, h3, q⟩ := h
    refine ⟨_, 
      (pss_cons (ps_set (i := 2) sc__law_reference.nd rfl (Or.inl rfl) (pe_tup (pa_cons pe_str (pa_cons (Zn.pe_cal c__law_pick (hr.mono (by decide)) (by rfl) (pa_cons (pv 0) (pa_cons (pe_ix (r := rIxL K) ix_list (pv 1) pe_int (fun _ _ => rfl)) pa_nil))) pa_nil))))
      (pss_cons (ps_set (i := 3) sc__law_reference.nd rfl (Or.inl rfl) (pe_tup (pa_cons pe_str (pa_cons (Zn.pe_cal c__law_pick (hr.mono (by decide)) (by rfl) (pa_cons (pv 0) (pa_cons (pe_ix (r := rIxL K) ix_list (pv 1) pe_int (fun _ _ => rfl)) pa_nil))) pa_nil))))
      (pss_cons (ps_set (i := 4) sc__law_reference.nd rfl (Or.inl rfl) (Zn.pe_cal c__law_pick (hr.mono (by decide)) (by rfl) (pa_cons (pv 0) (pa_cons (pe_ix (r := rIxL K) ix_list (pv 1) pe_int (fun _ _ => rfl)) pa_nil))))
      (pss_cons (ps_set (i := 5) sc__law_reference.nd rfl (Or.inl rfl) (pe_tup (pa_cons pe_str (pa_cons (pe_tup (pa_cons pe_str (pa_cons (pe_ix (r := rIxT K) ix_tup (pv 4) pe_int (fun _ _ => rfl)) (pa_cons (pe_ix (r := rIxT K) ix_tup (pv 4) pe_int (fun _ _ => rfl)) pa_nil)))) (pa_cons (Zn.pe_cal c__law_leaf (hr.mono (by decide)) (by rfl) (pa_cons (pv 0) (pa_cons (pv 1) (pa_cons (pe_ix (r := rIxT K) ix_tup (pv 4) pe_int (fun _ _ => rfl)) pa_nil)))) pa_nil)))))
      (pss_cons (ps_set (i := 6) sc__law_reference.nd rfl (Or.inl rfl) (pe_tup (pa_cons pe_str (pa_cons (pe_tup (pa_cons pe_str (pa_cons (pe_ix (r := rIxT K) ix_tup (pv 2) pe_int (fun _ _ => rfl)) (pa_cons (pe_ix (r := rIxL K) ix_list (pe_ix (r := rIxL K) ix_list (pv 1) pe_int (fun _ _ => rfl)) pe_int (fun _ _ => rfl)) pa_nil)))) (pa_cons (pv 3) pa_nil)))))
      (pss_cons (ps_set (i := 7) sc__law_reference.nd rfl (Or.inl rfl) (pe_tup (pa_cons pe_str (pa_cons (pv 2) (pa_cons (pe_tup (pa_cons pe_str (pa_cons (pe_ix (r := rIxT K) ix_tup (pv 3) pe_int (fun _ _ => rfl)) (pa_cons (pe_ix (r := rIxL K) ix_list (pe_ix (r := rIxL K) ix_list (pv 1) pe_int (fun _ _ => rfl)) pe_int (fun _ _ => rfl)) pa_nil)))) pa_nil)))))
      (pss_cons (ps_set (i := 8) sc__law_reference.nd rfl (Or.inl rfl) (pe_tup (pa_cons pe_str (pa_cons (pe_ix (r := rIxT K) ix_tup (pv 2) pe_int (fun _ _ => rfl)) (pa_cons (pe_ix (r := rIxL K) ix_list (pe_ix (r := rIxL K) ix_list (pv 1) pe_int (fun _ _ => rfl)) pe_int (fun _ _ => rfl)) pa_nil)))))
      (pss_one (ps_ret (pe_ix (r := rIxL K) ix_list (pe_lst (pa_cons (pv 8) (pa_cons (pv 5) (pa_cons (pv 6) (pa_cons (pv 7) (pa_cons (pe_tup (pa_cons pe_str (pa_cons (pv 2) (pa_cons (pv 3) pa_nil)))) (pa_cons (pe_tup (pa_cons pe_str (pa_cons (pv 2) (pa_cons (pe_tup (pa_cons pe_str pa_nil)) pa_nil)))) pa_nil))))))) (Zn.pe_cal c__law_draw (hr.mono (by decide)) (by rfl) (pa_cons (pv 0) (pa_cons pe_int pa_nil))) (fun _ _ => rfl))))))))))), ?_⟩
    have dd : d ∈ [d] := by simp
    have hne : e ∉ [d] := by simpa using ned
    have hS : ∀ b ∈ [d], b ∈ S := by simpa using hd
    have n3d : g.r3 ≠ d := fun e => G.n3 (e ▸ hd)
    have n2d : g.r2 ≠ d := fun e => G.n2 (e ▸ hd)
    have z3 := G.z3
    have z2 := G.z2
    obtain ⟨h2, la, lb, hl6, oka, okb⟩ := G.p6 h3
    have CP : ∀ H4 a xs Q', Drw H4 d c → a ≠ d → H4 a = some (.lst xs) → xs ≠ [] → xs.length ≤ 1000 → (∀ x ∈ xs, ∀ H5, Kp [d] H4 H5 → Drw H5 d c → Q' x H5) → spPick K [.ref d, .ref a] H4 Q' E0 := fun H4 a xs Q' D4 na ha hne hl q' =>
      ⟨d, c, a, xs, rfl, D4, na, sl_of ha, hne, hl, fun x zs' hx D5 => q' x hx _ (.drw D4 dd) D5⟩
    have ha := G.at_
    walk_at "rs"
    refine CP _ g.r3 g.l3 _ hD n3d G.a3 h3 (by omega) fun x1 hx1 H1 k1 D1 => ?_
    obtain ⟨s1, rfl, o1⟩ := G.p3 x1 hx1
    have G1 := G.kp k1 hne hS
    have ha1 := G1.at_
    walk_at "rs"
    rename_i p1 hp1
    have D1' := D1.same (same_new (o := .tup [.str "name", .str s1]) hp1)
    refine CP _ g.r3 g.l3 _ D1' n3d (same_new hp1 _ _ G1.a3) h3 (by omega) fun x2 hx2 H2 k2 D2 => ?_
    obtain ⟨s2, rfl, o2⟩ := G.p3 x2 hx2
    have K2 := (k1.new hp1).trans k2
    have G2 := G.kp K2 hne hS
    have ha2 := G2.at_
    have q1 := k2.t _ _ (show upd H1 p1 (.tup [.str "name", .str s1]) p1 = _ from upd_same)
    walk_at "rs"
    rename_i p2 hp2
    have D2' := D2.same (same_new (o := .tup [.str "name", .str s2]) hp2)
    refine CP _ g.r2 g.l2 _ D2' n2d (same_new hp2 _ _ G2.a2) h2 (by omega) fun x3 hx3 H3 k3 D3 => ?_
    have K3 := (K2.new hp2).trans k3
    have G3 := G.kp K3 hne hS
    have ha3 := G3.at_
    have q2 := k3.t _ _ (same_new hp2 _ _ q1)
    have q3 := k3.t _ _ (show upd H2 p2 (.tup [.str "name", .str s2]) p2 = _ from upd_same)
    obtain ⟨p3, nm, fn, u, rfl, hp3, o3, o4, u1, u8⟩ := G3.p2 x3 hx3
    walk_at "rs"
    rename_i p4 hp4
    have K4 := K3.new (o := .tup [.str "field", .str nm, .str fn]) hp4
    have D3' := D3.same (same_new (o := .tup [.str "field", .str nm, .str fn]) hp4)
    refine ⟨d, c, e, S, g, k, u, rfl, D3', hd, ned, G.kp K4 hne hS, u1, u8, fun H5 v k5 D5 t5 => ?_⟩
    have K5 := K4.trans k5
    have G5 := G.kp K5 hne hS
    have ha5 := G5.at_
    have hl : H5 g.r6 = some (.lst [.str la, .str lb]) := by rw [← hl6]; exact G5.a6
    have r1 := k5.t _ _ (same_new hp4 _ _ q2)
    have r2 := k5.t _ _ (same_new hp4 _ _ q3)
    have t4 := (Tree.tup (n := 0) (xs := [.str "field", .str nm, .str fn]) hp4 (all_cons (.str (by decide +kernel)) (all_cons (.str o3) (all_cons (.str o4) all_nil)))).kp k5
    have tn : Tree 1 H5 (.ref p1) := Tree.mk (n := 0) r1 (all_cons (.str (by decide +kernel)) (all_cons (.str o1) all_nil))
    have to : Tree 1 H5 (.ref p2) := Tree.mk (n := 0) r2 (all_cons (.str (by decide +kernel)) (all_cons (.str o2) all_nil))
    walk_at "rs"
    rename_i a1 e1 a2 e2 a3 e3 a4 e4 a5 e5 a6 e6 a7 e7 a8 e8 a9 e9 a10 e10
    have fin : ∀ Hf, Same H5 Hf → Drw Hf d c → Hf a1 = some (.tup [.str "let", .ref p4, v]) → Hf a2 = some (.tup [.str "field", .str s1, .str lb]) → Hf a3 = some (.tup [.str "let", .ref a2, .ref p2]) → Hf a4 = some (.tup [.str "field", .str s2, .str lb]) →
        Hf a5 = some (.tup [.str "let", .ref p1, .ref a4]) → Hf a6 = some (.tup [.str "make", .str s1, .str la]) → Hf a7 = some (.tup [.str "let", .ref p1, .ref p2]) → Hf a8 = some (.tup [.str "null"]) → Hf a9 = some (.tup [.str "let", .ref p1, .ref a8]) →
        Hf a10 = some (.lst [.ref a6, .ref a1, .ref a3, .ref a5, .ref a7, .ref a9]) → a10 ≠ d → spDraw [.ref d, .int 6] Hf (fun y H2 => rIxL K (.ref a10) y H2 Q) E0 := fun Hf sf Df c1 c2 c3 c4 c5 c6 c7 c8 c9 c10 nd => by
      have kf : Kp [d] H5 Hf := .same sf
      have u1 : Tree 1 Hf (.ref p1) := tn.kp kf
      have u2 : Tree 1 Hf (.ref p2) := to.kp kf
      have u4 : Tree 2 Hf (.ref p4) := (t4.kp kf).le (by omega)
      have uv : Tree 2 Hf v := t5.kp kf
      have w2 : Tree 2 Hf (.ref a2) := (Tree.mk (n := 0) c2 (all_cons (.str (by decide +kernel)) (all_cons (.str o1) (all_cons (.str okb) all_nil)))).le (by omega)
      have w4 : Tree 2 Hf (.ref a4) := (Tree.mk (n := 0) c4 (all_cons (.str (by decide +kernel)) (all_cons (.str o2) (all_cons (.str okb) all_nil)))).le (by omega)
      have w8 : Tree 2 Hf (.ref a8) := (Tree.mk (n := 0) c8 (all_cons (.str (by decide +kernel)) all_nil)).le (by omega)
      have x1 : Tree 3 Hf (.ref a1) := Tree.mk c1 (all_cons (.str (by decide +kernel)) (all_cons u4 (all_cons uv all_nil)))
      have x3 : Tree 3 Hf (.ref a3) := Tree.mk c3 (all_cons (.str (by decide +kernel)) (all_cons w2 (all_cons (u2.le (by omega)) all_nil)))
      have x5 : Tree 3 Hf (.ref a5) := Tree.mk c5 (all_cons (.str (by decide +kernel)) (all_cons (u1.le (by omega)) (all_cons w4 all_nil)))
      have x6 : Tree 3 Hf (.ref a6) := (Tree.mk (n := 0) c6 (all_cons (.str (by decide +kernel)) (all_cons (.str o1) (all_cons (.str oka) all_nil)))).le (by omega)
      have x7 : Tree 3 Hf (.ref a7) := Tree.mk c7 (all_cons (.str (by decide +kernel)) (all_cons (u1.le (by omega)) (all_cons (u2.le (by omega)) all_nil)))
      have x9 : Tree 3 Hf (.ref a9) := Tree.mk c9 (all_cons (.str (by decide +kernel)) (all_cons (u1.le (by omega)) (all_cons w8 all_nil)))
      have all6 : ∀ x ∈ [V.ref a6, .ref a1, .ref a3, .ref a5, .ref a7, .ref a9], Tree 3 Hf x := all_cons x6 (all_cons x1 (all_cons x3 (all_cons x5 (all_cons x7 (all_cons x9 all_nil)))))
      refine ⟨d, c, _, rfl, Df, by decide, by decide, fun n zs n0 n1 Dg => ?_⟩
      have kg := Kp.drw (zs := zs) Df dd
      have hj : n.toNat < [V.ref a6, .ref a1, .ref a3, .ref a5, .ref a7, .ref a9].length := by
        show n.toNat < 6
        omega
      refine r_ixL (v := [V.ref a6, .ref a1, .ref a3, .ref a5, .ref a7, .ref a9][n.toNat]) (sl_of ((upd_ne nd).trans c10)) (atI_lt (j := n.toNat) (by omega) (List.getElem?_eq_getElem hj)) ?_
      exact q _ _ ((K5.trans kf).trans kg) Dg ((all6 _ (List.getElem_mem _)).kp kg)
    have sm9 : Same H5 _ := .trans (.trans (.trans (.trans (.trans (.trans (.trans (.trans (same_new (o := .tup [.str "let", .ref p4, v]) e1) (same_new (o := .tup [.str "field", .str s1, .str lb]) e2)) (same_new (o := .tup [.str "let", .ref a2, .ref p2]) e3)) (same_new (o := .tup [.str "field", .str s2, .str lb]) e4)) (same_new (o := .tup [.str "let", .ref p1, .ref a4]) e5)) (same_new (o := .tup [.str "make", .str s1, .str la]) e6)) (same_new (o := .tup [.str "let", .ref p1, .ref p2]) e7)) (same_new (o := .tup [.str "null"]) e8)) (same_new (o := .tup [.str "let", .ref p1, .ref a8]) e9)
    have nd10 : a10 ≠ d := ((D5.same sm9).nd e10).symm
    have sm := sm9.trans (same_new (o := .lst [.ref a6, .ref a1, .ref a3, .ref a5, .ref a7, .ref a9]) e10)
    refine fin _ sm (D5.same sm) ?_ ?_ ?_ ?_ ?_ ?_ ?_ ?_ ?_ upd_same ?_
    all_goals first
      | (walk_at "fd"; done)
      | exact nd10
end
end Zn
namespace Zn
open PySem PySem.Spec PyProof.Rows L2 TL
theorem EnvAt.move {S S' : List Addr} {H H' : Hp} {e : Addr} {g : EnvD} {k : Int} (G : EnvAt S H e g k) (h : Kp S' H H') (hs : ∀ r o, H r = some (.lst o) → r ∉ S') : EnvAt S H' e g k :=
  { at_ := h.x _ _ (hs _ _ G.at_) G.at_, a0 := h.x _ _ (hs _ _ G.a0) G.a0, a1 := h.x _ _ (hs _ _ G.a1) G.a1, a2 := h.x _ _ (hs _ _ G.a2) G.a2, a3 := h.x _ _ (hs _ _ G.a3) G.a3,
    a4 := h.x _ _ (hs _ _ G.a4) G.a4, a5 := h.x _ _ (hs _ _ G.a5) G.a5, a6 := h.x _ _ (hs _ _ G.a6) G.a6,
    n0 := G.n0, n1 := G.n1, n2 := G.n2, n3 := G.n3, n4 := G.n4, n5 := G.n5, n6 := G.n6,
    p0 := fun x m => (G.p0 x m).kp h, p1 := fun x m => (G.p1 x m).kp h, p2 := fun x m => (G.p2 x m).kp h, p3 := G.p3, p4 := fun x m => (G.p4 x m).kp h, p5 := G.p5, p6 := G.p6,
    z0 := G.z0, z1 := G.z1, z2 := G.z2, z3 := G.z3, z4 := G.z4, z5 := G.z5 }
theorem EnvAt.same {S : List Addr} {H H' : Hp} {e : Addr} {g : EnvD} {k : Int} (G : EnvAt S H e g k) (s : Same H H') : EnvAt S H' e g k := G.move (S' := []) (.same s) fun _ _ _ m => by cases m
/-- a list made behind H0, in which the same env stood -/
theorem EnvAt.mut {S : List Addr} {H0 H : Hp} {e C : Addr} {g : EnvD} {k0 k : Int} {l : List V} {o : HO} (G0 : EnvAt S H0 e g k0) (hC : H0 C = none) (G : EnvAt S H e g k) (hl : H C = some (.lst l)) : EnvAt S (upd H C o) e g k := by
  have h : Kp [C] H (upd H C o) := (Kp.refl _ _).set (by simp) hl
  have f : ∀ {r : Addr} {x : HO}, H0 r = some x → r ∉ [C] := fun {r x} e1 m => by
    rw [List.mem_singleton] at m
    subst m
    rw [hC] at e1
    cases e1
  exact
  { at_ := h.x _ _ (f G0.at_) G.at_, a0 := h.x _ _ (f G0.a0) G.a0, a1 := h.x _ _ (f G0.a1) G.a1, a2 := h.x _ _ (f G0.a2) G.a2, a3 := h.x _ _ (f G0.a3) G.a3,
    a4 := h.x _ _ (f G0.a4) G.a4, a5 := h.x _ _ (f G0.a5) G.a5, a6 := h.x _ _ (f G0.a6) G.a6,
    n0 := G.n0, n1 := G.n1, n2 := G.n2, n3 := G.n3, n4 := G.n4, n5 := G.n5, n6 := G.n6,
    p0 := fun x m => (G.p0 x m).kp h, p1 := fun x m => (G.p1 x m).kp h, p2 := fun x m => (G.p2 x m).kp h, p3 := G.p3, p4 := fun x m => (G.p4 x m).kp h, p5 := G.p5, p6 := G.p6,
    z0 := G.z0, z1 := G.z1, z2 := G.z2, z3 := G.z3, z4 := G.z4, z5 := G.z5 }
section
variable {P : Program} {w : World} {K : PySem.W.Frag} {mg : Str → Option Value} {base : Heap}
/-- a statement -/
def spStmt (n : Nat) : Sp := fun vs H Q _ => ∃ (d c e : Addr) (S : List Addr) (g : EnvD) (k dep : Int), vs = [.ref d, .ref e, .int dep] ∧ Drw H d c ∧ d ∈ S ∧ e ∈ S ∧ e ≠ d ∧ e ≠ c ∧ EnvAt S H e g k ∧ g.l0 ≠ [] ∧ 0 ≤ dep ∧ dep < n ∧
  ∀ H' v k', Kp [d, e] H H' → Drw H' d c → EnvAt S H' e g k' → Tree (12 + 4 * n) H' v → Q v H'
def spBlock (n : Nat) : Sp := fun vs H Q _ => ∃ (d c e : Addr) (S : List Addr) (g : EnvD) (k dep many : Int), vs = [.ref d, .ref e, .int dep, .int many] ∧ Drw H d c ∧ d ∈ S ∧ e ∈ S ∧ e ≠ d ∧ e ≠ c ∧ EnvAt S H e g k ∧ g.l0 ≠ [] ∧ 0 ≤ dep ∧ dep < n ∧ 0 ≤ many ∧ many ≤ 10 ∧
  ∀ H' p k' xs, Kp [d, e] H H' → Drw H' d c → EnvAt S H' e g k' → H' p = some (.tup xs) → xs.length ≤ 10 → (∀ x ∈ xs, Tree (12 + 4 * n) H' x) → Q (.ref p) H'
theorem ok_block (n : Nat) {f : Addr} {fd : FuncData} (F : Fun K "_law_block" "_law_block" s__law_block f fd) (c__law_statement : Cal P w K mg base "_law_statement" (2 * n + 12) (spStmt n)) (T : Tx mg) :
    FnOk P w K mg base CX0 (2 * n + 12 + 1) f fd ["_law_d", "_law_env", "_law_depth", "_law_many"] (spBlock n) := by
  refine F.ok sc__law_block (fun vs H Q E h => ?_) (fun cdv A outer s H vs Q E hr h => ?_)
  · obtain ⟨d, c, e, S, g, k, dep, many, rfl, _⟩ := h
    rfl
  · obtain ⟨d, c, e, S, g, k, dep, many, rfl, hD, hd, he, ned, nec, G, hl0, dp0, dp1, m0, m1, q⟩ := h
    refine ⟨_, 
      (pss_one (ps_ret (pe_callTy call_tuple_of (by rfl) T.z_tuple (by decide +kernel) (pa_cons (pe_lc (own := [("_law_k", 4)]) rfl sc__law_block.nd (pi_range1 (by rfl) T.z_range (pa_cons (pv 3) pa_nil)) (blkOk_by (N := ["_law_d", "_law_env", "_law_depth", "_law_many", "_law_k"]) (sc := defScope s__law_block) (by decide +kernel)) (fun _ _ _ _ _ => (pg_name (i := 4) sc__law_block.nd rfl (Or.inl rfl))) (fun _ _ _ _ _ => pts_nil) (fun _ _ _ _ _ => (Zn.pe_cal c__law_statement (hr.mono (by omega)) (by rfl) (pa_cons (pv 0) (pa_cons (pv 1) (pa_cons (pv 2) pa_nil)))))) pa_nil)))), ?_⟩
    walk_at "rs"
    intro C hC
    have nCd : C ≠ d := (hD.nd hC).symm
    have nCe : C ≠ e := (ne_of_none G.at_ hC).symm
    have k0 : Kp [d, e] H (upd H C (.lst [])) := (Kp.refl _ _).new hC
    refine lc_range (fun i H' => ∃ xs k', Kp [d, e] H H' ∧ Drw H' d c ∧ EnvAt S H' e g k' ∧ H' C = some (.lst xs) ∧ xs.length = i ∧ ∀ x ∈ xs, Tree (12 + 4 * n) H' x) ⟨[], k, k0, hD.same (same_new hC), G.same (same_new hC), upd_same, rfl, all_nil⟩ (fun i H' hi ⟨xs, k', k1, D1, G1, hc, hl, hx⟩ => ?_) (fun H' ⟨xs, k', k1, D1, G1, hc, hl, hx⟩ => ?_)
    · walk_at "rs"
      refine ⟨rfl, ?_⟩
      walk_at "rs"
      refine ⟨d, c, e, S, g, k', dep, rfl, D1, hd, he, ned, nec, G1, hl0, dp0, dp1, fun H2 v k2 kk D2 G2 t => ?_⟩
      have hc2 := kk.x _ _ (by simp [nCd, nCe]) hc
      have kC : Kp [C] H2 (upd H2 C (.lst (xs ++ [v]))) := (Kp.refl _ _).set (by simp) hc2
      refine ⟨xs, hc2, Nat.lt_of_lt_of_le (show xs.length < 1000 by omega) (by decide), xs ++ [v], k2, (k1.trans kk).mut hC hc2, D2.upd nCd.symm (hD.nc hC), G.mut hC G2 hc2, upd_same, by simp [hl], mem_app (fun x m => ((hx x m).kp kk).kp kC) (all_cons (t.kp kC) all_nil)⟩
    · walk_at "rs"
      refine ⟨C, _, rfl, .inl ⟨sl_of hc, fun p hp => ?_⟩⟩
      exact q _ p k' xs (k1.new hp) (D1.same (same_new hp)) (G1.same (same_new hp)) upd_same (by omega) fun x m => (hx x m).kp (.same (S := []) (same_new hp))
end
end Zn
namespace Zn
open PySem PySem.Spec PyProof.Rows L2 TL
section
variable {P : Program} {w : World} {K : PySem.W.Frag} {mg : Str → Option Value} {base : Heap}
theorem ok_statement (n : Nat) {f : Addr} {fd : FuncData} (F : Fun K "_law_statement" "_law_statement" s__law_statement f fd) (c__law_draw : Cal P w K mg base "_law_draw" 1 spDraw) (c__law_pick : Cal P w K mg base "_law_pick" 2 (spPick K)) (c__law_leaf : Cal P w K mg base "_law_leaf" 3 spLeaf)
    (c__law_expr : Cal P w K mg base "_law_expr" 10 (spExpr 3)) (c__law_relation : Cal P w K mg base "_law_relation" 11 (spRel 3)) (c__law_loop : Cal P w K mg base "_law_loop" 4 spLoop) (c__law_reference : Cal P w K mg base "_law_reference" 4 spRef)
    (c__law_block : Cal P w K mg base "_law_block" (2 * n + 13) (spBlock n)) (T : Tx mg) :
    FnOk P w K mg base CX0 (2 * n + 13 + 1) f fd ["_law_d", "_law_env", "_law_depth"] (spStmt (n + 1)) := by
  refine F.ok sc__law_statement (fun vs H Q E h => ?_) (fun cdv A outer s H vs Q E hr h => ?_)
  · obtain ⟨d, c, e, S, g, k, dep, rfl, _⟩ := h
    rfl
  · obtain ⟨d, c, e, S, g, k, dep, rfl, hD, hd, he, ned, nec, G, hl0, dp0, dp1, q⟩ := h
    refine ⟨_, 
      (pss_cons (ps_set (i := 3) sc__law_statement.nd rfl (Or.inl rfl) (Zn.pe_cal c__law_draw (hr.mono (by omega)) (by rfl) (pa_cons (pv 0) (pa_cons pe_int pa_nil))))
      (pss_cons (ps_augS (pv 1) pe_int Zn.pget_list pe_int ip_sub set_list)
      (pss_cons (ps_set (i := 4) sc__law_statement.nd rfl (Or.inl rfl) (Zn.pe_cal c__law_pick (hr.mono (by omega)) (by rfl) (pa_cons (pv 0) (pa_cons (pe_ix (r := rIxL K) ix_list (pv 1) pe_int (fun _ _ => rfl)) pa_nil))))
      (pss_cons (ps_if (PW.pt (pw_and (pt_cmpR op_lt (pv 3) pe_int (nomark _)) (pw_and (pt_cmpR op_gt (pv 2) pe_int (nomark _)) (pw_and1 (pt_cmpR op_ge (pe_ix (r := rIxL K) ix_list (pv 1) pe_int (fun _ _ => rfl)) pe_int (nomark _)))))) 
       (pss_cons (ps_set (i := 5) sc__law_statement.nd rfl (Or.inl rfl) (Zn.pe_cal c__law_block (hr.mono (by omega)) (by rfl) (pa_cons (pv 0) (pa_cons (pv 1) (pa_cons pe_int (pa_cons (Zn.pe_cal c__law_draw (hr.mono (by omega)) (by rfl) (pa_cons (pv 0) (pa_cons pe_int pa_nil))) pa_nil))))))
       (pss_cons (ps_if (pt_cmpR op_eq (pv 3) pe_int (nomark _)) 
        (pss_one (ps_ret (Zn.pe_cal c__law_loop (hr.mono (by omega)) (by rfl) (pa_cons (pv 0) (pa_cons (pv 1) (pa_cons (pv 4) (pa_cons (pv 5) pa_nil))))))) pss_nil)
       (pss_cons (ps_set (i := 6) sc__law_statement.nd rfl (Or.inl rfl) (Zn.pe_cal c__law_block (hr.mono (by omega)) (by rfl) (pa_cons (pv 0) (pa_cons (pv 1) (pa_cons (pe_op op_sub (pv 2) pe_int) (pa_cons (pe_op op_add pe_int (Zn.pe_cal c__law_draw (hr.mono (by omega)) (by rfl) (pa_cons (pv 0) (pa_cons pe_int pa_nil)))) pa_nil))))))
       (pss_cons (ps_if (PW.pt (pw_and (pt_cmpR op_eq (pv 3) pe_int (nomark _)) (pw_and1 (pt_truth (pe_ix (r := rIxL K) ix_list (pv 1) pe_int (fun _ _ => rfl)) (by intro _; rfl))))) 
        (pss_one (ps_ret (pe_tup (pa_cons pe_str (pa_cons (pv 6) (pa_cons (pe_tup (pa_cons (pe_tup (pa_cons (Zn.pe_cal c__law_pick (hr.mono (by omega)) (by rfl) (pa_cons (pv 0) (pa_cons (pe_ix (r := rIxL K) ix_list (pv 1) pe_int (fun _ _ => rfl)) pa_nil))) (pa_cons (pv 5) pa_nil))) pa_nil)) pa_nil)))))) pss_nil)
       (pss_one (ps_ret (pe_tup (pa_cons pe_str (pa_cons (Zn.pe_cal c__law_relation (hr.mono (by omega)) (by rfl) (pa_cons (pv 0) (pa_cons (pv 1) (pa_cons (Zn.pe_cal c__law_draw (hr.mono (by omega)) (by rfl) (pa_cons (pv 0) (pa_cons pe_int pa_nil))) pa_nil)))) (pa_cons (pv 6) (pa_cons (pv 5) pa_nil))))))))))) pss_nil)
      (pss_cons (ps_if (PW.pt (pw_and (pt_cmpR op_eq (pv 3) pe_int (nomark _)) (pw_and1 (pt_truth (pe_ix (r := rIxL K) ix_list (pv 1) pe_int (fun _ _ => rfl)) (by intro _; rfl))))) 
       (pss_one (ps_ret (pe_tup (pa_cons pe_str (pa_cons (Zn.pe_cal c__law_pick (hr.mono (by omega)) (by rfl) (pa_cons (pv 0) (pa_cons (pe_ix (r := rIxL K) ix_list (pv 1) pe_int (fun _ _ => rfl)) pa_nil))) pa_nil))))) pss_nil)
      (pss_cons (ps_if (pt_cmpR op_eq (pv 3) pe_int (nomark _)) 
       (pss_one (ps_ret (pe_tup (pa_cons pe_str (pa_cons (Zn.pe_cal c__law_relation (hr.mono (by omega)) (by rfl) (pa_cons (pv 0) (pa_cons (pv 1) (pa_cons (Zn.pe_cal c__law_draw (hr.mono (by omega)) (by rfl) (pa_cons (pv 0) (pa_cons pe_int pa_nil))) pa_nil)))) pa_nil))))) pss_nil)
      (pss_cons (ps_if (PW.pt (pw_and (pt_cmpR op_lt (pv 3) pe_int (nomark _)) (pw_and1 (pt_truth (pe_ix (r := rIxL K) ix_list (pv 1) pe_int (fun _ _ => rfl)) (by intro _; rfl))))) 
       (pss_cons (ps_set (i := 7) sc__law_statement.nd rfl (Or.inr rfl) (Zn.pe_cal c__law_pick (hr.mono (by omega)) (by rfl) (pa_cons (pv 0) (pa_cons (pe_ix (r := rIxL K) ix_list (pv 1) pe_int (fun _ _ => rfl)) pa_nil))))
       (pss_cons (ps_set (i := 8) sc__law_statement.nd rfl (Or.inl rfl) (pe_callTy call_tuple_of (by rfl) T.z_tuple (by decide +kernel) (pa_cons (pe_lc (own := [("_law_param", 9)]) rfl sc__law_statement.nd (pi_tup (pe_ix (r := rIxT K) ix_tup (pv 7) pe_int (fun _ _ => rfl))) (blkOk_by (N := ["_law_d", "_law_env", "_law_depth", "_law_way", "_law_row", "_law_other", "_law_block_here", "_law_part", "_law_args", "_law_param", "_law_targets", "_law_var", "_law_item", "_law_place"]) (sc := defScope s__law_statement) (by decide +kernel)) (fun _ _ _ _ _ => (pg_name (i := 9) sc__law_statement.nd rfl (Or.inl rfl))) (fun _ _ _ _ _ => pts_nil) (fun _ _ _ _ _ => (Zn.pe_cal c__law_expr (hr.mono (by omega)) (by rfl) (pa_cons (pv 0) (pa_cons (pv 1) (pa_cons (pe_ix (r := rIxT K) ix_tup (pv 9) pe_int (fun _ _ => rfl)) (pa_cons pe_int pa_nil))))))) pa_nil)))
       (pss_cons (ps_set (i := 10) sc__law_statement.nd rfl (Or.inl rfl) (pe_op op_cat (pe_op op_rep (pe_lc (own := [("_law_var", 11)]) rfl sc__law_statement.nd (pi_list (pe_ix (r := rIxL K) ix_list (pv 1) pe_int (fun _ _ => rfl))) (blkOk_by (N := ["_law_d", "_law_env", "_law_depth", "_law_way", "_law_row", "_law_other", "_law_block_here", "_law_part", "_law_args", "_law_param", "_law_targets", "_law_var", "_law_item", "_law_place"]) (sc := defScope s__law_statement) (by decide +kernel)) (fun _ _ _ _ _ => (pg_name (i := 11) sc__law_statement.nd rfl (Or.inl rfl))) (fun _ _ _ _ _ => (pts_one (pt_cmpR op_eq (pe_ix (r := rIxT K) ix_tup (pv 11) pe_int (fun _ _ => rfl)) (pe_ix (r := rIxT K) ix_tup (pv 7) pe_int (fun _ _ => rfl)) (nomark _)))) (fun _ _ _ _ _ => (pe_ix (r := rIxT K) ix_tup (pv 11) pe_int (fun _ _ => rfl)))) pe_int) (pe_lst (pa_cons pe_non pa_nil))))
       (pss_one (ps_ret (pe_tup (pa_cons pe_str (pa_cons (Zn.pe_cal c__law_pick (hr.mono (by omega)) (by rfl) (pa_cons (pv 0) (pa_cons (pv 10) pa_nil))) (pa_cons (pe_ix (r := rIxT K) ix_tup (pv 7) pe_int (fun _ _ => rfl)) (pa_cons (pv 8) pa_nil)))))))))) pss_nil)
      (pss_cons (ps_if (PW.pt (pw_and (pt_cmpR op_lt (pv 3) pe_int (nomark _)) (pw_and1 (pt_truth (pe_ix (r := rIxL K) ix_list (pv 1) pe_int (fun _ _ => rfl)) (by intro _; rfl))))) 
       (pss_one (ps_ret (Zn.pe_cal c__law_reference (hr.mono (by omega)) (by rfl) (pa_cons (pv 0) (pa_cons (pv 1) pa_nil))))) pss_nil)
      (pss_cons (ps_if (PW.pt (pw_and (pt_cmpR op_eq (pv 3) pe_int (nomark _)) (pw_and1 (pt_truth (pe_ix (r := rIxL K) ix_list (pv 1) pe_int (fun _ _ => rfl)) (by intro _; rfl))))) 
       (pss_cons (ps_set (i := 12) sc__law_statement.nd rfl (Or.inl rfl) (Zn.pe_cal c__law_pick (hr.mono (by omega)) (by rfl) (pa_cons (pv 0) (pa_cons (pe_ix (r := rIxL K) ix_list (pv 1) pe_int (fun _ _ => rfl)) pa_nil))))
       (pss_cons (ps_set (i := 13) sc__law_statement.nd rfl (Or.inl rfl) (pe_tup (pa_cons pe_str (pa_cons (pe_ix (r := rIxT K) ix_tup (pv 12) pe_int (fun _ _ => rfl)) (pa_cons (Zn.pe_cal c__law_leaf (hr.mono (by omega)) (by rfl) (pa_cons (pv 0) (pa_cons (pv 1) (pa_cons (pe_op op_add pe_int (Zn.pe_cal c__law_draw (hr.mono (by omega)) (by rfl) (pa_cons (pv 0) (pa_cons pe_int pa_nil)))) pa_nil)))) pa_nil)))))
       (pss_one (ps_ret (pe_tup (pa_cons pe_str (pa_cons (pv 13) (pa_cons (Zn.pe_cal c__law_expr (hr.mono (by omega)) (by rfl) (pa_cons (pv 0) (pa_cons (pv 1) (pa_cons (pe_ix (r := rIxT K) ix_tup (pv 12) pe_int (fun _ _ => rfl)) (pa_cons pe_int pa_nil))))) pa_nil)))))))) pss_nil)
      (pss_one (ps_ret (pe_tup (pa_cons pe_str (pa_cons (pe_tup (pa_cons pe_str (pa_cons (pe_ix (r := rIxT K) ix_tup (pv 4) pe_int (fun _ _ => rfl)) pa_nil))) (pa_cons (Zn.pe_cal c__law_expr (hr.mono (by omega)) (by rfl) (pa_cons (pv 0) (pa_cons (pv 1) (pa_cons (pe_ix (r := rIxT K) ix_tup (pv 4) pe_int (fun _ _ => rfl)) (pa_cons pe_int pa_nil))))) pa_nil))))))))))))))), ?_⟩
    have dd : d ∈ [d] := by simp
    have hne : e ∉ [d] := by simpa using ned
    have hS : ∀ b ∈ [d], b ∈ S := by simpa using hd
    have up : ∀ {H1 H2 : Hp}, Kp [d] H1 H2 → Kp [d, e] H1 H2 := fun k => k.mono (by simp)
    have n0d : g.r0 ≠ d := fun e => G.n0 (e ▸ hd)
    have n1d : g.r1 ≠ d := fun e => G.n1 (e ▸ hd)
    have n3d : g.r3 ≠ d := fun e => G.n3 (e ▸ hd)
    have n4d : g.r4 ≠ d := fun e => G.n4 (e ▸ hd)
    have n5d : g.r5 ≠ d := fun e => G.n5 (e ▸ hd)
    have z0 := G.z0
    have z1 := G.z1
    have z4 := G.z4
    have z5 := G.z5
    have CP : ∀ H4 a xs Q', Drw H4 d c → a ≠ d → H4 a = some (.lst xs) → xs ≠ [] → xs.length ≤ 1000 → (∀ x ∈ xs, ∀ H5, Kp [d] H4 H5 → Drw H5 d c → Q' x H5) → spPick K [.ref d, .ref a] H4 Q' E0 := fun H4 a xs Q' D4 na ha hne hl q' =>
      ⟨d, c, a, xs, rfl, D4, na, sl_of ha, hne, hl, fun x zs' hx D5 => q' x hx _ (.drw D4 dd) D5⟩
    have CD : ∀ H4 (m : Int) Q', Drw H4 d c → 1 ≤ m → m < 1000 → (∀ i H5, 0 ≤ i → i < m → Kp [d] H4 H5 → Drw H5 d c → Q' (.int i) H5) → spDraw [.ref d, .int m] H4 Q' E0 := fun H4 m Q' D4 m1 m2 q' =>
      ⟨d, c, m, rfl, D4, m1, by omega, fun i zs i0 i1 D5 => q' i _ i0 i1 (.drw D4 dd) D5⟩
    have CE : ∀ H4 k4 w' i Q', EnvAt S H4 e g k4 → Drw H4 d c → 1 ≤ w' → w' ≤ 8 → 0 ≤ i → i < 3 → TellT 8 [d] d c H4 Q' → spExpr 3 [.ref d, .ref e, .int w', .int i] H4 Q' E0 := fun H4 k4 w' i Q' G4 D4 u1 u8 i0 i1 q' =>
      ⟨d, c, e, S, g, k4, w', i, rfl, D4, hd, ned, G4, u1, u8, i0, i1, q'⟩
    have CL : ∀ H4 k4 w' Q', EnvAt S H4 e g k4 → Drw H4 d c → 1 ≤ w' → w' ≤ 8 → TellT 2 [d] d c H4 Q' → spLeaf [.ref d, .ref e, .int w'] H4 Q' E0 := fun H4 k4 w' Q' G4 D4 u1 u8 q' =>
      ⟨d, c, e, S, g, k4, w', rfl, D4, hd, ned, G4, u1, u8, q'⟩
    have CR : ∀ H4 k4 i Q', EnvAt S H4 e g k4 → Drw H4 d c → 0 ≤ i → i < 3 → TellT 9 [d] d c H4 Q' → spRel 3 [.ref d, .ref e, .int i] H4 Q' E0 := fun H4 k4 i Q' G4 D4 u1 u8 q' =>
      ⟨d, c, e, S, g, k4, i, rfl, D4, hd, ned, G4, u1, u8, q'⟩
    have CB : ∀ H4 k4 (i m : Int) Q', EnvAt S H4 e g k4 → Drw H4 d c → 0 ≤ i → i < n → 0 ≤ m → m ≤ 10 → (∀ H' p k' xs, Kp [d, e] H4 H' → Drw H' d c → EnvAt S H' e g k' → H' p = some (.tup xs) → xs.length ≤ 10 → (∀ x ∈ xs, Tree (12 + 4 * n) H' x) → Q' (.ref p) H') → spBlock n [.ref d, .ref e, .int i, .int m] H4 Q' E0 := fun H4 k4 i m Q' G4 D4 i0 i1 m0 m1 q' =>
      ⟨d, c, e, S, g, k4, i, m, rfl, D4, hd, he, ned, nec, G4, hl0, i0, i1, m0, m1, q'⟩
    walk_at "rs"
    refine CD _ _ _ hD (by decide) (by decide) fun way H1 way0 way1 k1 D1 => ?_
    have G1 := G.kp k1 hne hS
    have ha1 := G1.at_
    walk_at "rs"
    have G2 := G1.put (k' := k - 1) he
    have k2 : Kp [d, e] H _ := (up k1).set (o := .lst [.ref g.r0, .ref g.r1, .ref g.r2, .ref g.r3, .ref g.r4, .ref g.r5, .ref g.r6, .int (k - 1)]) (by simp) ha1
    have D2 := D1.upd (o := .lst [.ref g.r0, .ref g.r1, .ref g.r2, .ref g.r3, .ref g.r4, .ref g.r5, .ref g.r6, .int (k - 1)]) ned.symm nec.symm
    refine CP _ g.r0 g.l0 _ D2 n0d G2.a0 hl0 (by omega) fun x3 hx3 H3 k3 D3 => ?_
    have hrow := (G2.p0 x3 hx3).kp k3
    have G3 := G2.kp k3 hne hS
    have K3 := k2.trans (up k3)
    have ha3 := G3.at_
    have fin : ∀ H' v k', Kp [d, e] H3 H' → Drw H' d c → EnvAt S H' e g k' → Tree (12 + 4 * (n + 1)) H' v → Q v H' := fun H' v k' kk D' G' t => q _ _ _ (K3.trans kk) D' G' t
    obtain ⟨rp, rn, ru, rfl, hrp, hro, ru1, ru8⟩ := hrow
    refine r_gname ?_
    refine seq_same ?_ (fun nx' hx => ?_)
    rotate_left
    · walk_at "rs"
      refine ite2 (fun h1 => ?_) (fun h1 => ?_)
      rotate_left
      · walk_at "rs"
        exact hx
      walk_at "rs"
      refine ite2 (fun h2 => ?_) (fun h2 => ?_)
      rotate_left
      · walk_at "rs"
        exact hx
      have h2 : 0 < dep := of_decide_eq_true h2
      walk_at "rs"
      refine ite2 (fun h3 => ?_) (fun h3 => ?_)
      rotate_left
      · walk_at "rs"
        exact hx
      walk_at "rs"
      refine CD _ _ _ D3 (by decide) (by decide) fun m4 H4 m40 m41 k4 D4 => ?_
      have G4 := G3.kp k4 hne hS
      walk_at "rs"
      refine CB _ _ _ _ _ G4 D4 (by decide) (by omega) m40 (by omega) fun H5 p5 kk5 xs5 k5 D5 G5 hp5 hl5 ht5 => ?_
      have K5 := (up k4).trans k5
      refine r_gname ?_
      refine seq_same ?_ (fun nx2 hx2 => ?_)
      rotate_left
      · walk_at "rs"
        refine ite2 (fun h4 => ?_) (fun h4 => ?_)
        · walk_at "rs"
          refine ⟨d, c, e, rp, p5, S, g, kk5, xs5, 12 + 4 * n, rfl, D5, hd, ned, G5, ⟨rp, rn, ru, rfl, K5.t _ _ hrp, hro, ru1, ru8⟩, hp5, by omega, ht5, by omega, fun H6 v6 k6 D6 t6 => ?_⟩
          exact fin _ _ _ (K5.trans (up k6)) D6 (G5.kp k6 hne hS) (t6.le (by omega))
        · walk_at "rs"
          exact hx2
      walk_at "rs"
      refine CD _ _ _ D5 (by decide) (by decide) fun m6 H6 m60 m61 k6 D6 => ?_
      have G6 := G5.kp k6 hne hS
      walk_at "rs"
      refine CB _ _ _ _ _ G6 D6 (by omega) (by omega) (by omega) (by omega) fun H7 p7 kk7 xs7 k7 D7 G7 hp7 hl7 ht7 => ?_
      have K57 := (up k6).trans k7
      have K7 := K5.trans K57
      have b7 : Tree (12 + 4 * n + 1) H7 (.ref p7) := Tree.mk hp7 ht7
      have b5 : Tree (12 + 4 * n + 1) H7 (.ref p5) := (Tree.mk hp5 ht5).kp K57
      have ha7 := G7.at_
      have b75 := G7.a5
      refine r_gname ?_
      refine seq_same ?_ (fun nx2 hx2 => ?_)
      rotate_left
      · walk_at "rs"
        refine ite2 (fun h4 => ?_) (fun h4 => ?_)
        · walk_at "rs"
          refine ite2 (fun h5 => ?_) (fun h5 => ?_)
          · walk_at "rs"
            refine CP _ g.r5 g.l5 _ D7 n5d b75 (ne_nil h5) (by omega) fun x8 hx8 H8 k8 D8 => ?_
            have hn8 := G7.p5 x8 hx8
            have G8 := G7.kp k8 hne hS
            walk_at "rs"
            rename_i a1 e1 a2 e2 a3 e3
            have t1 := Tree.tup (xs := [x8, .ref p5]) e1 (all_cons (.nm hn8) (all_cons (b5.kp k8) all_nil))
            have t2 := Tree.tup (xs := [.ref a1]) e2 (all_cons t1 all_nil)
            have s2 := (same_new (o := .tup [x8, .ref p5]) e1).trans (same_new (o := .tup [.ref a1]) e2)
            have t3 := Tree.tup (n := 12 + 4 * n + 1 + 1 + 1) (xs := [.str "try", .ref p7, .ref a2]) e3 (all_cons (.str (by decide +kernel)) (all_cons (((b7.kp k8).kp (.same (S := []) s2)).le (by omega)) (all_cons t2 all_nil)))
            have s3 := s2.trans (same_new (o := .tup [.str "try", .ref p7, .ref a2]) e3)
            exact fin _ _ _ ((K7.trans (up k8)).trans (.same s3)) (D8.same s3) (G8.same s3) (t3.le (by omega))
          · walk_at "rs"
            exact hx2
        · walk_at "rs"
          exact hx2
      walk_at "rs"
      refine CD _ _ _ D7 (by decide) (by decide) fun m8 H8 m80 m81 k8 D8 => ?_
      walk_at "rs"
      refine CR _ _ _ _ (G7.kp k8 hne hS) D8 m80 (by omega) fun H9 v9 k9 D9 t9 => ?_
      have G9 := G7.kp (k8.trans k9) hne hS
      walk_at "rs"
      rename_i a1 e1
      have t1 := Tree.tup (n := 12 + 4 * n + 1) (xs := [.str "if", v9, .ref p7, .ref p5]) e1 (all_cons (.str (by decide +kernel)) (all_cons (t9.le (by omega)) (all_cons (b7.kp (k8.trans k9)) (all_cons (b5.kp (k8.trans k9)) all_nil))))
      have s1 := same_new (o := .tup [.str "if", v9, .ref p7, .ref p5]) e1
      exact fin _ _ _ ((K7.trans (up (k8.trans k9))).trans (.same s1)) (D9.same s1) (G9.same s1) (t1.le (by omega))
    have b1 := G3.a1
    have b3 := G3.a3
    have b4 := G3.a4
    have b5 := G3.a5
    refine seq_same ?_ (fun nx' hx => ?_)
    rotate_left
    · walk_at "rs"
      refine ite2 (fun h1 => ?_) (fun h1 => ?_)
      · walk_at "rs"
        refine ite2 (fun h2 => ?_) (fun h2 => ?_)
        · walk_at "rs"
          refine CP _ g.r5 g.l5 _ D3 n5d b5 (ne_nil h2) (by omega) fun x8 hx8 H8 k8 D8 => ?_
          have hn8 := G3.p5 x8 hx8
          have G8 := G3.kp k8 hne hS
          walk_at "rs"
          rename_i a1 e1
          have s1 := same_new (o := .tup [.str "raise", x8]) e1
          exact fin _ _ _ ((up k8).trans (.same s1)) (D8.same s1) (G8.same s1) ((Tree.tup (n := 0) (xs := [.str "raise", x8]) e1 (all_cons (.str (by decide +kernel)) (all_cons (.nm hn8) all_nil))).le (by omega))
        · walk_at "rs"
          exact hx
      · walk_at "rs"
        exact hx
    refine seq_same ?_ (fun nx' hx => ?_)
    rotate_left
    · walk_at "rs"
      refine ite2 (fun h1 => ?_) (fun h1 => ?_)
      · walk_at "rs"
        refine CD _ _ _ D3 (by decide) (by decide) fun m8 H8 m80 m81 k8 D8 => ?_
        walk_at "rs"
        refine CR _ _ _ _ (G3.kp k8 hne hS) D8 m80 (by omega) fun H9 v9 k9 D9 t9 => ?_
        have G9 := G3.kp (k8.trans k9) hne hS
        walk_at "rs"
        rename_i a1 e1
        have s1 := same_new (o := .tup [.str "assert", v9]) e1
        exact fin _ _ _ ((up (k8.trans k9)).trans (.same s1)) (D9.same s1) (G9.same s1) ((Tree.tup (xs := [.str "assert", v9]) e1 (all_cons (.str (by decide +kernel)) (all_cons t9 all_nil))).le (by omega))
      · walk_at "rs"
        exact hx
    refine seq_same ?_ (fun nx' hx => ?_)
    rotate_left
    · walk_at "rs"
      refine ite2 (fun h1 => ?_) (fun h1 => ?_)
      rotate_left
      · walk_at "rs"
        exact hx
      walk_at "rs"
      refine ite2 (fun h2 => ?_) (fun h2 => ?_)
      rotate_left
      · walk_at "rs"
        exact hx
      walk_at "rs"
      refine CP _ g.r4 g.l4 _ D3 n4d b4 (ne_nil h2) (by omega) fun x4 hx4 H4 k4 D4 => ?_
      have G4 := G3.kp k4 hne hS
      obtain ⟨pp, pa, pnm, pq, pw, prest, prs, rfl, hpp, hpo, hpq, hprl, hprs⟩ := (G3.p4 x4 hx4).kp k4
      walk_at "rs"
      refine r_ref ⟨_, st_of hpq⟩ fun C hC => ?_
      have nCd : C ≠ d := (D4.nd hC).symm
      have dC : C ∉ [d] := by simpa using nCd
      refine lc_tup (K := K) (a := pq) (xs := prs) (fun i H' => ∃ xs, Kp [d] H4 H' ∧ Drw H' d c ∧ H' C = some (.lst xs) ∧ xs.length = i ∧ ∀ x ∈ xs, Tree 8 H' x) ⟨[], (Kp.refl _ _).new hC, D4.same (same_new hC), upd_same, rfl, all_nil⟩ (fun i H' _ ⟨_, kk, _⟩ => st_of (kk.t _ _ hpq)) (fun i x H' hi ⟨xs, kk, D', hc, hl, hx'⟩ => ?_) (fun H5 ⟨xs, k5, D5, hc, hl, hx'⟩ => ?_)
      · obtain ⟨vp, vn, vu, rfl, hvp, hvo, vu1, vu8⟩ := (hprs x (List.mem_of_getElem? hi)).kp kk
        have hi2 := (List.getElem?_eq_some_iff.mp hi).1
        have G' := G4.kp kk hne hS
        walk_at "rs"
        refine ⟨rfl, ?_⟩
        walk_at "rs"
        refine CE _ _ _ _ _ G' D' vu1 vu8 (by decide) (by decide) fun H6 v6 k6 D6 t6 => ?_
        have hc6 := k6.x _ _ dC hc
        have kC : Kp [C] H6 (upd H6 C (.lst (xs ++ [v6]))) := (Kp.refl _ _).set (by simp) hc6
        exact ⟨xs, hc6, Nat.lt_of_lt_of_le (show xs.length < 1000 by omega) (by decide), xs ++ [v6], (kk.trans k6).mut hC hc6, D6.upd nCd.symm (D4.nc hC), upd_same, by simp [hl], mem_app (fun x m => ((hx' x m).kp k6).kp kC) (all_cons (t6.kp kC) all_nil)⟩
      walk_at "rs"
      refine ⟨C, _, rfl, .inl ⟨sl_of hc, fun ap hap => ?_⟩⟩
      have k5' := k5.new (o := .tup xs) hap
      have D5' := D5.same (same_new (o := .tup xs) hap)
      have ta : Tree 9 _ (.ref ap) := Tree.tup hap hx'
      have G5 := G4.kp k5' hne hS
      have ha5 := G5.at_
      have b50 := G5.a0
      have hpp5 := k5'.t _ _ hpp
      walk_at "rs"
      refine r_ref ⟨_, sl_of b50⟩ fun C2 hC2 => ?_
      have nC2d : C2 ≠ d := (D5'.nd hC2).symm
      refine lc_list (K := K) (a := g.r0) (xs := g.l0) (fun i H' => ∃ ns : List V, Same (upd H5 ap (.tup xs)) H' ∧ H' C2 = some (.lst ns) ∧ ns.length ≤ i ∧ ∀ x ∈ ns, Nm x) ⟨[], same_new hC2, upd_same, Nat.le_refl _, all_nil⟩ (fun i H' _ ⟨_, s, _⟩ => sl_of (s _ _ b50)) (fun i x H' hi ⟨ns, s, hn, hl, hxx⟩ => ?_) (fun H6 ⟨ns, s6, hn, hl, hxn⟩ => ?_)
      · obtain ⟨vp, vn, vu, rfl, hvp, hvo, vu1, vu8⟩ := G5.p0 x (List.mem_of_getElem? hi)
        have hi2 := (List.getElem?_eq_some_iff.mp hi).1
        have hvp' := s _ _ hvp
        have hpp' := s _ _ hpp5
        walk_at "rs"
        refine ⟨rfl, ?_⟩
        walk_at "rs"
        refine ite2 (fun h => ?_) (fun h => ?_)
        · walk_at "rs"
          refine ⟨_, hn, Nat.lt_of_le_of_lt (show ns.length ≤ 1000 by omega) (by decide), ns ++ [.str vn], Same.mut s hC2, upd_same, ?_, ?_⟩
          · rw [List.length_append, List.length_singleton]; omega
          · exact mem_app hxx (all_cons (show Nm (.str vn) from ⟨vn, rfl, hvo⟩) all_nil)
        · exact ⟨ns, s, hn, by omega, hxx⟩
      have k6 := k5'.trans (.same s6)
      have D6 := D5'.same s6
      have ta6 := ta.kp (.same (S := []) s6)
      walk_at "rs"
      refine ⟨C2, (2 : Int), ns, rfl, rfl, hn, by decide, by decide, Nat.le_trans (show ns.length * (2 : Int).toNat ≤ 1000 by show ns.length * 2 ≤ 1000; omega) (by decide), fun p7 hp7 => ?_⟩
      have hm7 : ∀ x ∈ (List.replicate (2 : Int).toNat ns).flatten, Nm x := fun x m => by
        obtain ⟨l, h1, h2⟩ := List.mem_flatten.mp m
        rw [(List.mem_replicate.mp h1).2] at h2
        exact hxn x h2
      have hl7 : (List.replicate (2 : Int).toNat ns).flatten.length ≤ 900 := by
        show (List.replicate 2 ns).flatten.length ≤ 900
        simp only [List.replicate, List.flatten_cons, List.flatten_nil, List.append_nil, List.length_append]
        omega
      walk_at "rs"
      rename_i p8 hp8
      refine r_cat (same_new hp8 _ _ upd_same) upd_same (len_ok (Nat.le_trans (Nat.add_le_add hl7 (Nat.le_refl 1)) (by decide))) fun p9 hp9 => ?_
      have s9 : Same H6 _ := ((same_new (o := .lst (List.replicate (2 : Int).toNat ns).flatten) hp7).trans (same_new (o := .lst [.non]) hp8)).trans (same_new (o := .lst ((List.replicate (2 : Int).toNat ns).flatten ++ [.non])) hp9)
      have D9 := D6.same s9
      have n9d : p9 ≠ d := ((D6.same ((same_new (o := .lst (List.replicate (2 : Int).toNat ns).flatten) hp7).trans (same_new (o := .lst [.non]) hp8))).nd hp9).symm
      walk_at "rs"
      refine CP _ p9 ((List.replicate (2 : Int).toNat ns).flatten ++ [.non]) _ D9 n9d upd_same (by simp) (by rw [List.length_append, List.length_singleton]; omega) fun x10 hx10 H10 k10 D10 => ?_
      have K10 := (k6.trans (.same s9)).trans k10
      have hpp10 := K10.t _ _ hpp
      have G10 := G4.kp K10 hne hS
      have t10 : Tree 0 H10 x10 := by
        rcases List.mem_append.mp hx10 with m | m
        · exact .nm (hm7 _ m)
        · rw [List.mem_singleton] at m
          subst m
          exact .non
      have ta10 := (ta6.kp (.same (S := []) s9)).kp k10
      walk_at "rs"
      rename_i a1 e1
      have s1 := same_new (o := .tup [.str "call", x10, .str pnm, .ref ap]) e1
      exact fin _ _ _ ((up (k4.trans K10)).trans (.same s1)) (D10.same s1) (G10.same s1) ((Tree.tup (xs := [.str "call", x10, .str pnm, .ref ap]) e1 (all_cons (.str (by decide +kernel)) (all_cons (t10.le (by omega)) (all_cons (.str hpo) (all_cons ta10 all_nil))))).le (by omega))
    refine seq_same ?_ (fun nx' hx => ?_)
    rotate_left
    · walk_at "rs"
      refine ite2 (fun h1 => ?_) (fun h1 => ?_)
      rotate_left
      · walk_at "rs"
        exact hx
      walk_at "rs"
      refine ite2 (fun h2 => ?_) (fun h2 => ?_)
      rotate_left
      · walk_at "rs"
        exact hx
      walk_at "rs"
      exact ⟨d, c, e, S, g, _, rfl, D3, hd, ned, G3, ne_nil h2, fun H4 v4 k4 D4 t4 => fin _ _ _ (up k4) D4 (G3.kp k4 hne hS) (t4.le (by omega))⟩
    refine seq_same ?_ (fun nx' hx => ?_)
    rotate_left
    · walk_at "rs"
      refine ite2 (fun h1 => ?_) (fun h1 => ?_)
      rotate_left
      · walk_at "rs"
        exact hx
      walk_at "rs"
      refine ite2 (fun h2 => ?_) (fun h2 => ?_)
      rotate_left
      · walk_at "rs"
        exact hx
      walk_at "rs"
      refine CP _ g.r1 g.l1 _ D3 n1d b1 (ne_nil h2) (by omega) fun x4 hx4 H4 k4 D4 => ?_
      have G4 := G3.kp k4 hne hS
      obtain ⟨ip, inm, iu, ik, rfl, hip, hio, iu1, iu8⟩ := (G3.p1 x4 hx4).kp k4
      walk_at "rs"
      refine CD _ _ _ D4 (by decide) (by decide) fun m5 H5 m50 m51 k5 D5 => ?_
      have G5 := G4.kp k5 hne hS
      walk_at "rs"
      refine CL _ _ _ _ G5 D5 (by omega) (by omega) fun H6 v6 k6 D6 t6 => ?_
      have G6 := G5.kp k6 hne hS
      have hip6 := (k5.trans k6).t _ _ hip
      walk_at "rs"
      rename_i p7 hp7
      have s7 := same_new (o := .tup [.str "item", .str inm, v6]) hp7
      have t7 := Tree.tup (xs := [.str "item", .str inm, v6]) hp7 (all_cons (.str (by decide +kernel)) (all_cons (.str hio) (all_cons t6 all_nil)))
      refine CE _ _ _ _ _ (G6.same s7) (D6.same s7) iu1 iu8 (by decide) (by decide) fun H8 v8 k8 D8 t8 => ?_
      have G8 := (G6.same s7).kp k8 hne hS
      have K8 := (((k4.trans k5).trans k6).trans (.same s7)).trans k8
      walk_at "rs"
      rename_i a1 e1
      have s1 := same_new (o := .tup [.str "let", .ref p7, v8]) e1
      exact fin _ _ _ ((up K8).trans (.same s1)) (D8.same s1) (G8.same s1) ((Tree.tup (xs := [.str "let", .ref p7, v8]) e1 (all_cons (.str (by decide +kernel)) (all_cons ((t7.kp k8).le (by omega)) (all_cons t8 all_nil)))).le (by omega))
    walk_at "rs"
    rename_i p4 hp4
    have s4 := same_new (o := .tup [.str "name", .str rn]) hp4
    have t4 := Tree.tup (n := 0) (xs := [.str "name", .str rn]) hp4 (all_cons (.str (by decide +kernel)) (all_cons (.str hro) all_nil))
    refine CE _ _ _ _ _ (G3.same s4) (D3.same s4) ru1 ru8 (by decide) (by decide) fun H8 v8 k8 D8 t8 => ?_
    have G8 := (G3.same s4).kp k8 hne hS
    walk_at "rs"
    rename_i a1 e1
    have s1 := same_new (o := .tup [.str "let", .ref p4, v8]) e1
    exact fin _ _ _ ((up ((Kp.same s4).trans k8)).trans (.same s1)) (D8.same s1) (G8.same s1) ((Tree.tup (xs := [.str "let", .ref p4, v8]) e1 (all_cons (.str (by decide +kernel)) (all_cons ((t4.kp k8).le (by omega)) (all_cons t8 all_nil)))).le (by omega))
end
end Zn
namespace Zn
open PySem PySem.Spec PyProof.Rows L2 TL
section
variable {P : Program} {w : World} {K : PySem.W.Frag} {mg : Str → Option Value} {base : Heap}
/-- a declaration: its name, and its entry bit if it is a function -/
def PartAt (H : Hp) (x : V) (nm : Str) (o : Option Int) : Prop := okB nm = true ∧ Tree 40 H x ∧ ∃ p, x = .ref p ∧
  ((∃ q gv en lo bd, o = some en ∧ H p = some (.tup [.str "function", .str nm, q, gv, .int en, lo, bd])) ∨ (∃ a rest, o = none ∧ a ≠ ("function" : Str) ∧ H p = some (.tup (.str a :: .str nm :: rest))))
theorem PartAt.kp {S : List Addr} {H H' : Hp} {x : V} {nm : Str} {o : Option Int} (k : Kp S H H') (h : PartAt H x nm o) : PartAt H' x nm o := by
  obtain ⟨h1, h2, p, e, h3⟩ := h
  refine ⟨h1, h2.kp k, p, e, ?_⟩
  rcases h3 with ⟨q, gv, en, lo, bd, e1, e2⟩ | ⟨a, rest, e1, e2, e3⟩
  · exact .inl ⟨q, gv, en, lo, bd, e1, k.t _ _ e2⟩
  · exact .inr ⟨a, rest, e1, e2, k.t _ _ e3⟩
/-- the declarations of a program -/
def Parts (H : Hp) (xs : List V) (ps : List (Str × Option Int)) : Prop := xs.length = ps.length ∧ xs.length ≤ 100 ∧ (ps.map (·.1)).Nodup ∧ ∀ (i : Nat) (x : V) (s : Str × Option Int), xs[i]? = some x → ps[i]? = some s → PartAt H x s.1 s.2
theorem Parts.kp {S : List Addr} {H H' : Hp} {xs : List V} {ps : List (Str × Option Int)} (k : Kp S H H') (h : Parts H xs ps) : Parts H' xs ps := ⟨h.1, h.2.1, h.2.2.1, fun i x s a b => (h.2.2.2 i x s a b).kp k⟩
theorem Parts.get {H : Hp} {xs : List V} {ps : List (Str × Option Int)} (h : Parts H xs ps) {i : Nat} {x : V} (e : xs[i]? = some x) : ∃ s, ps[i]? = some s ∧ PartAt H x s.1 s.2 := by
  have hi := (List.getElem?_eq_some_iff.mp e).1
  have hi2 : i < ps.length := by rw [← h.1]; exact hi
  exact ⟨ps[i], List.getElem?_eq_getElem hi2, h.2.2.2 i x _ e (List.getElem?_eq_getElem hi2)⟩
def ent1 (s : Str × Option Int) : Option Str := if s.2 = some 1 then some s.1 else none
def ents (ps : List (Str × Option Int)) : List Str := ps.filterMap ent1
theorem ents_snoc {ps : List (Str × Option Int)} {i : Nat} {s : Str × Option Int} (h : ps[i]? = some s) : ents (ps.take (i + 1)) = ents (ps.take i) ++ (if s.2 = some 1 then [s.1] else []) := by
  rw [List.take_add_one, h, ents, List.filterMap_append]
  congr 1
  by_cases e : s.2 = some 1
  · simp [ent1, e]
  · simp [ent1, e]
theorem ents_len (ps : List (Str × Option Int)) : (ents ps).length ≤ ps.length := List.length_filterMap_le _ _
def spEnts : Sp := fun vs H Q _ => ∃ (pr : Addr) (xs : List V) (ps : List (Str × Option Int)), vs = [.ref pr] ∧ H pr = some (.tup xs) ∧ Parts H xs ps ∧ ∀ H' p, Same H H' → H' p = some (.tup ((ents ps).map V.str)) → Q (.ref p) H'
theorem ok_entries_of {f : Addr} {fd : FuncData} (F : Fun K "entries_of" "entries_of" s_entries_of f fd) (T : Tx mg) : FnOk P w K mg base CX0 1 f fd ["program"] spEnts := by
  refine F.ok sc_entries_of (fun vs H Q E h => ?_) (fun cdv A outer s H vs Q E hr h => ?_)
  · obtain ⟨pr, xs, ps, rfl, _⟩ := h
    rfl
  · obtain ⟨pr, xs, ps, rfl, hpr, hP, q⟩ := h
    refine ⟨_, 
      (pss_one (ps_ret (pe_callTy call_tuple_of (by rfl) T.z_tuple (by decide +kernel) (pa_cons (pe_lc (own := [("one", 1)]) rfl sc_entries_of.nd (pi_tup (pv 0)) (blkOk_by (N := ["program", "one"]) (sc := defScope s_entries_of) (by decide +kernel)) (fun _ _ _ _ _ => (pg_name (i := 1) sc_entries_of.nd rfl (Or.inl rfl))) (fun _ _ _ _ _ => (pts_one (PW.pt (pw_and (pt_cmpR op_eq (pe_ix (r := rIxT K) ix_tup (pv 1) pe_int (fun _ _ => rfl)) pe_str (nomark _)) (pw_and1 (pt_cmpR op_eq (pe_ix (r := rIxT K) ix_tup (pv 1) pe_int (fun _ _ => rfl)) pe_int (nomark _))))))) (fun _ _ _ _ _ => (pe_ix (r := rIxT K) ix_tup (pv 1) pe_int (fun _ _ => rfl)))) pa_nil)))), ?_⟩
    walk_at "rs"
    refine r_ref ⟨_, st_of hpr⟩ fun C hC => ?_
    refine lc_tup (K := K) (a := pr) (xs := xs) (fun i H' => Same H H' ∧ H' C = some (.lst ((ents (ps.take i)).map V.str))) ⟨same_new hC, upd_same⟩ (fun i H' _ ⟨s, _⟩ => st_of (s _ _ hpr)) (fun i x H' hi ⟨s, hc⟩ => ?_) (fun H' ⟨s, hc⟩ => ?_)
    · obtain ⟨⟨nm, o⟩, hs, ho, ht, p, rfl, hp⟩ := hP.get hi
      have hi2 := (List.getElem?_eq_some_iff.mp hi).1
      have hlen := ents_len (ps.take i)
      have hlen2 : (ps.take i).length ≤ i := by rw [List.length_take]; omega
      have hl100 := hP.2.1
      have en := ents_snoc hs
      have put : (o = some 1) → ∃ acc, H' C = some (.lst acc) ∧ acc.length < sizeLine ∧ Same H (upd H' C (.lst (acc ++ [.str nm]))) ∧ upd H' C (.lst (acc ++ [.str nm])) C = some (.lst ((ents (ps.take (i + 1))).map V.str)) := fun h1 => by
        refine ⟨_, hc, ?_, Same.mut s hC, ?_⟩
        · rw [List.length_map]
          exact Nat.lt_of_le_of_lt (show (ents (ps.take i)).length ≤ 1000 by omega) (by decide)
        · rw [upd_same, en, if_pos h1, List.map_append]
          rfl
      have skip : (o ≠ some 1) → Same H H' ∧ H' C = some (.lst ((ents (ps.take (i + 1))).map V.str)) := fun h1 => by
        rw [en, if_neg h1, List.append_nil]
        exact ⟨s, hc⟩
      rcases hp with ⟨q', gv, e, lo, bd, e1, hp⟩ | ⟨a, rest, e1, e2, hp⟩
      · have hp' := s _ _ hp
        walk_at "rs"
        refine ⟨rfl, ?_⟩
        walk_at "rs"
        refine ite2 (fun h => ?_) (fun h => ?_)
        · walk_at "rs"
          have h : e = 1 := V.int.inj (of_decide_eq_true h)
          exact put (e1.trans (congrArg some h))
        · exact skip fun e2 => h (by
            have e3 : e = 1 := by
              have := e1.symm.trans e2
              exact Option.some.inj this
            rw [e3]; rfl)
      · have hp' := s _ _ hp
        have hne : ¬ (decide (V.str a = V.str "function") = true) := fun k => e2 (V.str.inj (of_decide_eq_true k))
        walk_at "rs"
        refine ⟨rfl, ?_⟩
        walk_at "rs"
        exact skip fun k => by cases e1.symm.trans k
    · walk_at "rs"
      refine ⟨C, _, rfl, .inl ⟨sl_of hc, fun p hp => ?_⟩⟩
      refine q _ p (s.trans (same_new hp)) ?_
      rw [hP.1, List.take_of_length_le (Nat.le_refl _), upd_same]
def spDecl : Sp := fun vs H Q _ => ∃ (pr : Addr) (xs : List V) (ps : List (Str × Option Int)) (j : Nat) (x : V) (s : Str × Option Int), vs = [.ref pr, .str s.1] ∧ H pr = some (.tup xs) ∧ Parts H xs ps ∧ xs[j]? = some x ∧ ps[j]? = some s ∧ Q x H
theorem ok_declared {f : Addr} {fd : FuncData} (F : Fun K "declared" "declared" s_declared f fd) (T : Tx mg) : FnOk P w K mg base CX0 1 f fd ["program", "name"] spDecl := by
  refine F.ok sc_declared (fun vs H Q E h => ?_) (fun cdv A outer s H vs Q E hr h => ?_)
  · obtain ⟨pr, xs, ps, j, x, s, rfl, _⟩ := h
    rfl
  · obtain ⟨pr, xs, ps, j, x, s, rfl, hpr, hP, hj, hsj, q⟩ := h
    refine ⟨_, 
      (pss_cons (ps_for PassesOwn.never rfl (pi_tup (pv 0)) (pg_name (i := 2) sc_declared.nd rfl (Or.inl rfl)) 
       (pss_one (ps_if (pt_cmpR op_eq (pe_ix (r := rIxT K) ix_tup (pv 2) pe_int (fun _ _ => rfl)) (pv 1) (nomark _)) 
        (pss_one (ps_ret (pv 2))) pss_nil)))
      (pss_one (ps_ret pe_non))), ?_⟩
    walk_at "rs"
    refine r_ref ⟨_, st_of hpr⟩ ?_
    have hjl := (List.getElem?_eq_some_iff.mp hj).1
    refine ft (K := K) (a := pr) (xs := xs) (fun i σ H' => H' = H ∧ i ≤ j ∧ ∃ v, σ = [some (.ref pr), some (.str s.1), v]) ⟨rfl, Nat.zero_le _, none, rfl⟩ (fun i σ H' _ ⟨e, _⟩ => by rw [e]; exact st_of hpr) ?_ ?_
    · rintro i y σ H' hi ⟨rfl, hij, v, rfl⟩
      obtain ⟨⟨nm, o⟩, hs, ho, ht, p, rfl, hp⟩ := hP.get hi
      have fin : ∀ D : Ends, D.rt = Q → D.nx = (fun σ H'' => H'' = H' ∧ i + 1 ≤ j ∧ ∃ v, σ = [some (.ref pr), some (.str s.1), v]) → (if decide (V.str nm = V.str s.1) = true then tRet (tVar 2) D [some (.ref pr), some (.str s.1), some (.ref p)] H' else tNext D [some (.ref pr), some (.str s.1), some (.ref p)] H') := fun D e1 e2 => by
        refine ite2 (fun h => ?_) (fun h => ?_)
        · have h : nm = s.1 := V.str.inj (of_decide_eq_true h)
          have hij2 : i = j := by
            have nd := hP.2.2.1
            have a1 : (ps.map (·.1))[i]? = some s.1 := by rw [List.getElem?_map, hs, ← h]; rfl
            have a2 : (ps.map (·.1))[j]? = some s.1 := by rw [List.getElem?_map, hsj]; rfl
            exact (List.getElem?_inj (List.getElem?_eq_some_iff.mp a1).1 nd).mp (a1.trans a2.symm)
          subst hij2
          have : x = .ref p := Option.some.inj (hj.symm.trans hi)
          refine r_ret ?_
          refine r_var rfl ?_
          rw [e1, ← this]
          exact q
        · refine r_next ?_
          rw [e2]
          refine ⟨rfl, ?_, _, rfl⟩
          have : i ≠ j := fun e => by
            subst e
            have : (nm, o) = s := Option.some.inj (hs.symm.trans hsj)
            exact h (by rw [← this]; exact decide_eq_true rfl)
          omega
      rcases hp with ⟨q', gv, e, lo, bd, e1, hp⟩ | ⟨a, rest, e1, e2, hp⟩
      · walk_at "rs"
        exact fin _ rfl rfl
      · walk_at "rs"
        exact fin _ rfl rfl
    · rintro σ H' ⟨rfl, hij, v, rfl⟩
      omega
/-- both functions told as they are -/
def spRight : Sp := fun vs H Q _ => ∃ (pr : Addr) (xs : List V) (ps : List (Str × Option Int)), vs = [.ref pr] ∧ H pr = some (.tup xs) ∧ Parts H xs ps ∧ ∀ H', Same H H' → Q (.bl true) H'
theorem strs_ok {ts : List Str} (h : ∀ t ∈ ts, okB t = true) : ∃ D : PyData, ∀ {K : PySem.W.Frag} {H : Hp} {a : Addr}, SqL K H a (ts.map V.str) → Dp K H (.ref a) D ∧ SeqAt.shaped D = true ∧ PyData.eqv D D = true := by
  have can : ∀ ts : List Str, (∀ t ∈ ts, okB t = true) → PyData.canLayAll0 (ts.map PyData.str) = true := fun ts h => by
    induction ts with
    | nil => simp [PyData.canLayAll0]
    | cons t ts ih =>
      have h1 := ih fun x hx => h x (List.mem_cons_of_mem _ hx)
      have h2 := strOk_of (h t List.mem_cons_self)
      simp [PyData.canLayAll0, PyData.canLay0, h1, h2]
  have dep : ∀ ts : List Str, PyData.depthAll (ts.map PyData.str) = 0 := fun ts => by
    induction ts with
    | nil => simp [PyData.depthAll]
    | cons t ts ih => simp [PyData.depthAll, PyData.depth, ih]
  have dp : ∀ {K : PySem.W.Frag} {H : Hp} (ts : List Str), DpAll K H (ts.map V.str) (ts.map PyData.str) := fun {K H} ts => by
    induction ts with
    | nil => exact .nil
    | cons t ts ih => exact .cons (.str t) ih
  exact ⟨.list (ts.map .str), fun {K H a} h' => ⟨.lst h' (dp ts), by simp [SeqAt.shaped, PyData.canLay0, can ts h, PyData.depth, dep], SeqAt.eqv_refl _ (by simp [PyData.canLay0, can ts h])⟩⟩
theorem ents_ok {H : Hp} {xs : List V} {ps : List (Str × Option Int)} (h : Parts H xs ps) : ∀ t ∈ ents ps, okB t = true := fun t m => by
  obtain ⟨s, h1, h2⟩ := List.mem_filterMap.mp m
  obtain ⟨i, hi, e⟩ := List.getElem_of_mem h1
  have hx : i < xs.length := by rw [h.1]; exact hi
  have := h.2.2.2 i xs[i] s (List.getElem?_eq_getElem hx) (by rw [List.getElem?_eq_getElem hi, e])
  unfold ent1 at h2
  split at h2
  · rw [← Option.some.inj h2]
    exact this.1
  · cases h2
theorem ok_told_right {f : Addr} {fd : FuncData} (F : Fun K "_law_told_right" "_law_told_right" s__law_told_right f fd) (c_entries_of : Cal P w K mg base "entries_of" 1 spEnts) (c_declared : Cal P w K mg base "declared" 1 spDecl) (T : Tx mg) : FnOk P w K mg base CX0 2 f fd ["_law_program_here"] spRight := by
  refine F.ok sc__law_told_right (fun vs H Q E h => ?_) (fun cdv A outer s H vs Q E hr h => ?_)
  · obtain ⟨pr, xs, ps, rfl, _⟩ := h
    rfl
  · obtain ⟨pr, xs, ps, rfl, hpr, hP, q⟩ := h
    refine ⟨_, 
      (pss_cons (ps_set (i := 1) sc__law_told_right.nd rfl (Or.inl rfl) (pe_lst pa_nil))
      (pss_cons (ps_for PassesOwn.never rfl (pi_tup (pv 0)) (pg_name (i := 2) sc__law_told_right.nd rfl (Or.inl rfl)) 
       (pss_cons (ps_if (PW.pt (pw_and (pt_cmpR op_eq (pe_ix (r := rIxT K) ix_tup (pv 2) pe_int (fun _ _ => rfl)) pe_str (nomark _)) (pw_and1 (pt_cmpR op_eq (pe_ix (r := rIxT K) ix_tup (pv 2) pe_int (fun _ _ => rfl)) pe_int (nomark _))))) 
        (pss_one (ps_expr (pe_bm PySem.F.plainAttrs_list PySem.F.slot_list_append PySem.F.type_list_append mt_append (pv 1) (pa_cons (pe_ix (r := rIxT K) ix_tup (pv 2) pe_int (fun _ _ => rfl)) pa_nil)))) pss_nil)
       (pss_one (ps_if (pt_cmpR (r := rNeD K) (op_neD hr.units) (Zn.pe_cal c_declared (hr.mono (by decide)) (by rfl) (pa_cons (pv 0) (pa_cons (pe_ix (r := rIxT K) ix_tup (pv 2) pe_int (fun _ _ => rfl)) pa_nil))) (pv 2) (nomark _)) 
        (pss_one (ps_ret pe_bl)) pss_nil))))
      (pss_cons (ps_set (i := 3) sc__law_told_right.nd rfl (Or.inl rfl) (Zn.pe_cal c_entries_of (hr.mono (by decide)) (by rfl) (pa_cons (pv 0) pa_nil)))
      (pss_one (ps_ret (pe_and (pe_callB call_isi (by rfl) T.z_isinstance (by decide +kernel) (pa_cons (pv 3) (pa_cons (pe_bltn (v := .ty "tuple") (by rfl) T.z_tuple (by decide +kernel) rfl) pa_nil))) (pe_one (pe_cmpR (r := rEqD K) (op_eqD hr.units) (pe_callTy call_list_of (by rfl) T.z_list (by decide +kernel) (pa_cons (pv 3) pa_nil)) (pv 1) (nomark _))))))))), ?_⟩
    walk_at "rs"
    rename_i g hg
    refine r_ref ⟨_, st_of (same_new hg _ _ hpr)⟩ ?_
    refine ft (K := K) (a := pr) (xs := xs) (fun i σ H' => ∃ v2 v3, σ = [some (.ref pr), some (.ref g), v2, v3] ∧ Same H H' ∧ H' g = some (.lst ((ents (ps.take i)).map V.str))) ⟨_, _, rfl, same_new hg, upd_same⟩ (fun i σ H' _ ⟨_, _, _, s, _⟩ => st_of (s _ _ hpr)) ?_ ?_
    · rintro i x σ H' hi ⟨v2, v3, rfl, s1, hg1⟩
      obtain ⟨⟨nm, o⟩, hs, hP1⟩ := hP.get hi
      have hi2 := (List.getElem?_eq_some_iff.mp hi).1
      have hlen := ents_len (ps.take i)
      have hlen2 : (ps.take i).length ≤ i := by rw [List.length_take]; omega
      have hl100 := hP.2.1
      have en := ents_snoc hs
      have hP1' := hP1.kp (.same (S := []) s1)
      obtain ⟨ho, ht, p, rfl, hp⟩ := hP1'
      refine r_gname ?_
      refine seq_nx (fun σ H2 => σ = [some (.ref pr), some (.ref g), some (.ref p), v3] ∧ Same H H2 ∧ Kp [g] H' H2 ∧ H2 g = some (.lst ((ents (ps.take (i + 1))).map V.str))) ?_ (fun nx' hx => ?_)
      · rintro σ H2 ⟨rfl, s02, k2, hg2⟩
        have hpr2 := s02 _ _ hpr
        obtain ⟨D, d1, d2, d3⟩ := (ht.kp k2).dp (K := K)
        have dsh : SeqAt.shaped D = true := by
          unfold SeqAt.shaped
          rw [d2, Bool.true_and]
          exact decide_eq_true (by omega)
        rcases hp with ⟨q', gv, e, lo, bd, e1, hp⟩ | ⟨a, rest, e1, e2, hp⟩
        · have hp2 := k2.t _ _ hp
          walk_at "rs"
          refine ⟨pr, xs, ps, i, .ref p, (nm, o), rfl, hpr2, hP.kp (.same (S := []) s02), hi, hs, ?_⟩
          walk_at "rs"
          refine ⟨D, D, d1, d1, dsh, dsh, ?_⟩
          rw [SeqAt.eqv_refl _ d2]
          walk_at "rs"
          exact ⟨_, _, rfl, s02, hg2⟩
        · have hp2 := k2.t _ _ hp
          walk_at "rs"
          refine ⟨pr, xs, ps, i, .ref p, (nm, o), rfl, hpr2, hP.kp (.same (S := []) s02), hi, hs, ?_⟩
          walk_at "rs"
          refine ⟨D, D, d1, d1, dsh, dsh, ?_⟩
          rw [SeqAt.eqv_refl _ d2]
          walk_at "rs"
          exact ⟨_, _, rfl, s02, hg2⟩
      · have skip : (o ≠ some 1) → nx' [some (.ref pr), some (.ref g), some (.ref p), v3] H' := fun h1 => hx _ _ ⟨rfl, s1, .refl _ _, by rw [en, if_neg h1, List.append_nil]; exact hg1⟩
        rcases hp with ⟨q', gv, e, lo, bd, e1, hp⟩ | ⟨a, rest, e1, e2, hp⟩
        · walk_at "rs"
          refine ite2 (fun h => ?_) (fun h => ?_)
          · have h : e = 1 := V.int.inj (of_decide_eq_true h)
            walk_at "rs"
            refine r_append hg1 (by rw [List.length_map]; exact Nat.lt_of_le_of_lt (show (ents (ps.take i)).length ≤ 1000 by omega) (by decide)) ?_
            walk_at "rs"
            refine hx _ _ ⟨rfl, Same.mut s1 hg, (Kp.refl _ _).set (by simp) hg1, ?_⟩
            rw [upd_same, en, if_pos (e1.trans (congrArg some h)), List.map_append]
            rfl
          · walk_at "rs"
            exact skip fun e2 => h (by
              have e3 : e = 1 := Option.some.inj (e1.symm.trans e2)
              rw [e3]; rfl)
        · have hne : ¬ (decide (V.str a = V.str "function") = true) := fun k => e2 (V.str.inj (of_decide_eq_true k))
          walk_at "rs"
          exact skip fun k => by cases e1.symm.trans k
    · rintro σ H' ⟨v2, v3, rfl, s1, hg1⟩
      rw [hP.1, List.take_of_length_le (Nat.le_refl _)] at hg1
      walk_at "rs"
      refine ⟨pr, xs, ps, rfl, s1 _ _ hpr, hP.kp (.same (S := []) s1), fun H2 p2 s2 hp2 => ?_⟩
      walk_at "rs"
      refine r_isi (.ty _) (.base (.tup hp2)) (kit_ty (r := true) (by decide +kernel)) ?_
      walk_at "rs"
      intro l hl
      walk_at "rs"
      obtain ⟨D, hD⟩ := strs_ok (ents_ok hP)
      obtain ⟨d1, d2, d3⟩ := hD (K := K) (H := upd H2 l (.lst ((ents ps).map V.str))) (a := l) (sl_of upd_same)
      obtain ⟨g1, g2, g3⟩ := hD (K := K) (H := upd H2 l (.lst ((ents ps).map V.str))) (a := g) (sl_of (same_new hl _ _ (s2 _ _ hg1)))
      refine ⟨D, D, d1, g1, d2, g2, ?_⟩
      rw [d3]
      exact q _ ((s1.trans s2).trans (same_new hl))
end
end Zn
namespace Zn
open PySem PySem.Spec PyProof.Rows L2 TL
theorem lc_rangeC {lo c : Int} {n : Nat} {g : TG} {tt : TT} {te : TE} {vs : List Nat} {σ : L2.St} {H1 : Hp} {D : Addr} {Qd : Hp → Prop} (Pv : Nat → Hp → Prop) (h0 : Pv 0 (upd H1 D (.lst [])))
    (hs : ∀ i H, i < n → Pv i H → g (.int (lo + (i : Nat) * c)) (wipe σ vs) H fun σ2 H2 => wipe σ2 vs = wipe σ vs ∧
      tt σ2 H2 fun b H3 => if b = true then te σ2 H3 fun y H4 => ∃ l, H4 D = some (.lst l) ∧ l.length < sizeLine ∧ Pv (i + 1) (upd H4 D (.lst (l ++ [y]))) else Pv (i + 1) H3)
    (hd : ∀ H, Pv n H → Qd H) :
    ∃ Z : Nat → Nat → Hp → Prop, (∃ m, Z 0 m (upd H1 D (.lst []))) ∧ ∀ i m H, Z i m H →
      ((Itc lo c n).stop i H ∧ Qd H) ∨ ((Itc lo c n).go i H ∧ ∃ Y : Hp → Prop, (∀ H', Y H' → ∃ m', m' < m ∧ Z (i + 1) m' H') ∧
        ∀ v H', (Itc lo c n).yld i H v H' → g v (wipe σ vs) H' fun σ2 H2 => wipe σ2 vs = wipe σ vs ∧ tt σ2 H2 fun b H3 =>
          if b = true then te σ2 H3 fun y H4 => ∃ l, H4 D = some (.lst l) ∧ l.length < sizeLine ∧ Y (upd H4 D (.lst (l ++ [y])))
          else Y H3) := by
  refine ⟨fun i m H => m = n - i ∧ i ≤ n ∧ Pv i H, ⟨_, rfl, Nat.zero_le _, h0⟩, ?_⟩
  rintro i m H ⟨rfl, hi, p⟩
  by_cases hlt : i < n
  · refine .inr ⟨hlt, Pv (i + 1), fun H' p' => ⟨n - (i + 1), by omega, rfl, hlt, p'⟩, fun v H' ⟨e, hv⟩ => ?_⟩
    subst e
    subst hv
    exact hs i H' hlt p
  · have e : i = n := by omega
    subst e
    exact .inl ⟨Nat.le_refl _, hd H p⟩
theorem ite_nx {c : Prop} [Decidable c] {A B : TS} {nx : L2.St → Hp → Prop} {rt : VK} {bk ct : L2.St → Hp → Prop} {σ : L2.St} {H : Hp} (Post : L2.St → Hp → Prop) (hq : ∀ σ' H', Post σ' H' → nx σ' H')
    (ha : c → ∀ nx', (∀ σ' H', Post σ' H' → nx' σ' H') → A ⟨nx', rt, bk, ct⟩ σ H) (hb : ¬ c → ∀ nx', (∀ σ' H', Post σ' H' → nx' σ' H') → B ⟨nx', rt, bk, ct⟩ σ H) :
    if c then A ⟨nx, rt, bk, ct⟩ σ H else B ⟨nx, rt, bk, ct⟩ σ H := by
  split
  · exact ha ‹_› nx hq
  · exact hb ‹_› nx hq
theorem r_rng3 {tr : TA} {σ : L2.St} {H : Hp} {R : It → Hp → Prop} (q : tr σ H fun vs H1 => ∃ (i j c : Int) (n : Nat), vs = [.int i, .int j, .int c] ∧ RgC i j c n ∧ R (Itc i c n) H1) : iRng3 tr σ H R := q
theorem Tree.parts {n : Nat} {H : Hp} {p : Addr} {xs : List V} (t : Tree (n + 1) H (.ref p)) (h : H p = some (.tup xs)) : ∀ x ∈ xs, Tree n H x := by
  rcases t with t | ⟨p', xs', e, hp', hx⟩
  · exact t.elim
  · cases e
    have := hp'.symm.trans h
    cases this
    exact hx
theorem in_mem {nm : Str} {ts : List Str} (h : nm ∈ ts) : inV (.str nm) (ts.map V.str) = true :=
  List.any_eq_true.mpr ⟨.str nm, List.mem_map_of_mem h, by show (nm == nm) = true; exact beq_self_eq_true nm⟩
theorem all_flat (ts : List Str) : (ts.map V.str).all flatV = true := by
  rw [List.all_map]
  exact List.all_eq_true.mpr fun _ _ => rfl
theorem r_slA {H : Hp} {K : PySem.W.Frag} {Q : VK} {a : Addr} {xs : List V} {lo hi : Option Int} (h : H a = some (.tup xs)) (hn : ¬ (HT.sIx xs.length 0 lo = 0 ∧ HT.sIx xs.length xs.length hi = xs.length)) (q : ∀ p, H p = none → Q (.ref p) (upd H p (.tup (cutV xs lo hi)))) : rSlA K (.ref a) lo hi H Q :=
  ⟨a, xs, rfl, st_of h, fun k => absurd k hn, fun _ => q⟩
/-- declarations behind each other -/
def PL (H : Hp) (ys : List V) (qs : List (Str × Option Int)) : Prop := ys.length = qs.length ∧ ∀ (i : Nat) (x : V) (s : Str × Option Int), ys[i]? = some x → qs[i]? = some s → PartAt H x s.1 s.2
theorem PL.kp {S : List Addr} {H H' : Hp} {ys : List V} {qs : List (Str × Option Int)} (k : Kp S H H') (h : PL H ys qs) : PL H' ys qs := ⟨h.1, fun i x s a b => (h.2 i x s a b).kp k⟩
theorem PL.snoc {H : Hp} {ys : List V} {qs : List (Str × Option Int)} {x : V} {s : Str × Option Int} (h : PL H ys qs) (hx : PartAt H x s.1 s.2) : PL H (ys ++ [x]) (qs ++ [s]) := by
  refine ⟨by simp [h.1], fun i y t hy ht => ?_⟩
  by_cases hi : i < ys.length
  · rw [List.getElem?_append_left hi] at hy
    rw [List.getElem?_append_left (by rw [← h.1]; exact hi)] at ht
    exact h.2 i y t hy ht
  · rw [List.getElem?_append_right (by omega)] at hy
    rw [List.getElem?_append_right (by rw [← h.1]; omega)] at ht
    have e : i - qs.length = i - ys.length := by rw [h.1]
    rw [e] at ht
    cases hk : i - ys.length with
    | zero =>
      rw [hk] at hy ht
      cases hy
      cases ht
      exact hx
    | succ k =>
      rw [hk] at hy
      simp at hy
section
variable {P : Program} {w : World} {K : PySem.W.Frag} {mg : Str → Option Value} {base : Heap}
def spMore : Sp := fun vs H Q _ => ∃ (d c pr : Addr) (xs : List V) (ps : List (Str × Option Int)), vs = [.ref d, .ref pr] ∧ Drw H d c ∧ H pr = some (.tup xs) ∧ Parts H xs ps ∧
  ∀ H' p xs' ps', Drw H' d c → H' p = some (.tup xs') → Parts H' xs' ps' → (∀ n ∈ ents ps, n ∈ ents ps') → Q (.ref p) H'
theorem ok_more_entries {f : Addr} {fd : FuncData} (F : Fun K "_law_more_entries" "_law_more_entries" s__law_more_entries f fd) (c__law_draw : Cal P w K mg base "_law_draw" 1 spDraw) (T : Tx mg) : FnOk P w K mg base CX0 2 f fd ["_law_d", "_law_program_here"] spMore := by
  refine F.ok sc__law_more_entries (fun vs H Q E h => ?_) (fun cdv A outer s H vs Q E hr h => ?_)
  · obtain ⟨d, c, pr, xs, ps, rfl, _⟩ := h
    rfl
  · obtain ⟨d, c, pr, xs, ps, rfl, hD, hpr, hP, q⟩ := h
    refine ⟨_, 
      (pss_cons (ps_set (i := 2) sc__law_more_entries.nd rfl (Or.inl rfl) (pe_lst pa_nil))
      (pss_cons (ps_for PassesOwn.never rfl (pi_tup (pv 1)) (pg_name (i := 3) sc__law_more_entries.nd rfl (Or.inl rfl)) 
       (pss_cons (ps_if (PW.pt (pw_and (pt_cmpR op_eq (pe_ix (r := rIxT K) ix_tup (pv 3) pe_int (fun _ _ => rfl)) pe_str (nomark _)) (pw_and1 (pt_truth (Zn.pe_cal c__law_draw (hr.mono (by decide)) (by rfl) (pa_cons (pv 0) (pa_cons pe_int pa_nil))) (by intro _; rfl))))) 
        (pss_one (ps_set (i := 3) sc__law_more_entries.nd rfl (Or.inl rfl) (pe_op (r := rCatA K) op_catA (pe_op (r := rCatA K) op_catA (pe_slice (r := rSlA K) sl_tupA (pv 3) po_none (po_some pe_int)) (pe_tup (pa_cons pe_int pa_nil))) (pe_slice (r := rSlA K) sl_tupA (pv 3) (po_some pe_int) po_none)))) pss_nil)
       (pss_one (ps_expr (pe_bm PySem.F.plainAttrs_list PySem.F.slot_list_append PySem.F.type_list_append mt_append (pv 2) (pa_cons (pv 3) pa_nil))))))
      (pss_one (ps_ret (pe_callTy call_tuple_of (by rfl) T.z_tuple (by decide +kernel) (pa_cons (pv 2) pa_nil)))))), ?_⟩
    walk_at "rs"
    rename_i g hg
    have ngd : g ≠ d := (hD.nd hg).symm
    have ngD : g ∉ [d] := by simpa using ngd
    refine r_ref ⟨_, st_of (same_new hg _ _ hpr)⟩ ?_
    refine ft (K := K) (a := pr) (xs := xs) (fun i σ H' => ∃ v3 ys qs, σ = [some (.ref d), some (.ref pr), some (.ref g), v3] ∧ Kp [d] H H' ∧ Drw H' d c ∧ H' g = some (.lst ys) ∧ PL H' ys qs ∧ qs.length = i ∧ qs.map (·.1) = (ps.take i).map (·.1) ∧ ∀ n ∈ ents (ps.take i), n ∈ ents qs)
      ⟨_, [], [], rfl, (Kp.refl _ _).new hg, hD.same (same_new hg), upd_same, ⟨rfl, fun i x s h => by cases h⟩, rfl, rfl, fun n h => by cases h⟩ (fun i σ H' _ ⟨_, _, _, _, k, _⟩ => st_of (k.t _ _ hpr)) ?_ ?_
    · rintro i x σ H' hi ⟨v3, ys, qs, rfl, k1, D1, hg1, hL, hql, hnm, hen⟩
      obtain ⟨⟨nm, o⟩, hs, hP1⟩ := hP.get hi
      have hi2 := (List.getElem?_eq_some_iff.mp hi).1
      have hl100 := hP.2.1
      have hP1' := hP1.kp k1
      obtain ⟨ho, ht, p, rfl, hp⟩ := hP1'
      refine r_gname ?_
      refine seq_nx (fun σ H2 => ∃ p2 o2, σ = [some (.ref d), some (.ref pr), some (.ref g), some (.ref p2)] ∧ Kp [d] H' H2 ∧ Drw H2 d c ∧ PartAt H2 (.ref p2) nm o2 ∧ (o = some 1 → o2 = some 1)) ?_ (fun nx' hx => ?_)
      · rintro σ H2 ⟨p2, o2, rfl, k2, D2, hP2, ho2⟩
        have hg2 := k2.x _ _ ngD hg1
        walk_at "rs"
        refine r_append hg2 (Nat.lt_of_le_of_lt (show ys.length ≤ 1000 by rw [hL.1]; omega) (by decide)) ?_
        walk_at "rs"
        have kg : Kp [g] H2 (upd H2 g (.lst (ys ++ [.ref p2]))) := (Kp.refl _ _).set (by simp) hg2
        refine ⟨_, _, qs ++ [(nm, o2)], rfl, (k1.trans k2).mut hg hg2, D2.upd ngd.symm (hD.nc hg), upd_same, ((hL.kp k2).kp kg).snoc (hP2.kp kg), by simp [hql], ?_, ?_⟩
        · rw [List.take_add_one, hs, List.map_append, List.map_append, hnm]
          rfl
        · intro n hn
          rw [ents_snoc hs] at hn
          rw [ents, List.filterMap_append]
          rcases List.mem_append.mp hn with hn | hn
          · exact List.mem_append_left _ (hen n hn)
          · refine List.mem_append_right _ ?_
            by_cases e1 : o = some 1
            · rw [if_pos e1, List.mem_singleton] at hn
              simp [ent1, ho2 e1, hn]
            · rw [if_neg e1] at hn
              cases hn
      · rcases hp with ⟨q', gv, e, lo, bd, e1, hp⟩ | ⟨a, rest, e1, e2, hp⟩
        · have hPP : PartAt H' (.ref p) nm o := ⟨ho, ht, p, rfl, .inl ⟨q', gv, e, lo, bd, e1, hp⟩⟩
          walk_at "rs"
          refine ⟨d, c, _, rfl, D1, by decide, by decide, fun m zs m0 m1 D2 => ?_⟩
          have k2 : Kp [d] H' (upd H' d (.lst zs)) := .drw D1 (by simp)
          have hp2 := k2.t _ _ hp
          have hx2 := (ht.kp k2).parts hp2
          walk_at "rs"
          refine ite2 (fun h => ?_) (fun h => ?_)
          · walk_at "rs"
            refine r_slA hp2 (show ¬ ((0 : Nat) = 0 ∧ (4 : Nat) = 7) by decide) fun p4 hp4 => ?_
            walk_at "rs"
            rename_i p5 hp5
            refine r_catT (xs := [.str "function", .str nm, q', gv]) (ys := [.int 1]) (same_new hp5 _ _ upd_same) upd_same (len_ok (show 4 + 1 ≤ 100000 by decide)) fun p6 H6 s6 hp6 => ?_
            have s26 : Same _ H6 := ((same_new (o := .tup (cutV [.str "function", .str nm, q', gv, .int e, lo, bd] none (some 4))) hp4).trans (same_new (o := .tup [.int 1]) hp5)).trans s6
            have hp26 := s26 _ _ hp2
            walk_at "rs"
            refine r_slA hp26 (show ¬ ((5 : Nat) = 0 ∧ (7 : Nat) = 7) by decide) fun p7 hp7 => ?_
            refine r_catT (xs := [V.str "function", .str nm, q', gv] ++ [V.int 1]) (ys := [lo, bd]) (same_new hp7 _ _ hp6) upd_same (len_ok (show 5 + 2 ≤ 100000 by decide)) fun p8 H8 s8 hp8 => ?_
            have s28 := (s26.trans (same_new (o := .tup (cutV [.str "function", .str nm, q', gv, .int e, lo, bd] (some 5) none)) hp7)).trans s8
            have kf : Kp [d] H' H8 := k2.trans (.same s28)
            walk_at "rs"
            refine hx _ _ ⟨p8, some 1, rfl, kf, D2.same s28, ⟨ho, ?_, p8, rfl, .inl ⟨q', gv, 1, lo, bd, rfl, hp8⟩⟩, fun _ => rfl⟩
            have hx8 : ∀ x ∈ [V.str "function", .str nm, q', gv, .int e, lo, bd], Tree 39 H8 x := fun x m => (hx2 x m).kp (.same (S := []) s28)
            exact Tree.mk hp8 (all_cons (hx8 _ (by simp)) (all_cons (hx8 _ (by simp)) (all_cons (hx8 _ (by simp)) (all_cons (hx8 _ (by simp)) (all_cons .int (all_cons (hx8 _ (by simp)) (all_cons (hx8 _ (by simp)) all_nil)))))))
          · walk_at "rs"
            exact hx _ _ ⟨p, o, rfl, k2, D2, hPP.kp k2, id⟩
        · have hPP : PartAt H' (.ref p) nm o := ⟨ho, ht, p, rfl, .inr ⟨a, rest, e1, e2, hp⟩⟩
          have hne : ¬ (decide (V.str a = V.str "function") = true) := fun k => e2 (V.str.inj (of_decide_eq_true k))
          walk_at "rs"
          exact hx _ _ ⟨p, o, rfl, .refl _ _, D1, hPP, id⟩
    · rintro σ H' ⟨v3, ys, qs, rfl, k1, D1, hg1, hL, hql, hnm, hen⟩
      rw [hP.1, List.take_of_length_le (Nat.le_refl _)] at hnm hen
      walk_at "rs"
      refine ⟨g, _, rfl, .inl ⟨sl_of hg1, fun p hp => ?_⟩⟩
      have kp : Kp [] H' (upd H' p (.tup ys)) := .same (same_new hp)
      refine q _ p ys qs (D1.same (same_new hp)) upd_same ⟨hL.1, by rw [hL.1, hql]; exact hP.2.1, by rw [hnm]; exact hP.2.2.1, (hL.kp kp).2⟩ hen
def spProg : Sp := fun vs H Q _ => ∃ (d c : Addr) (m : Int), vs = [.ref d, .int m] ∧ Drw H d c ∧ 0 ≤ m ∧ m < 6 ∧
  ∀ H' p pr xs ps nm, Drw H' d c → H' pr = some (.tup xs) → Parts H' xs ps → nm ∈ ents ps → H' p = some (.tup [.ref pr, .str nm]) → Q (.ref p) H'
def spLaw (K : PySem.W.Frag) : Sp := fun vs H Q _ => ∃ (a : Addr) (ns : List Int), vs = [.ref a] ∧ SqL K H a (ns.map V.int) ∧ ns.length ≤ 63 ∧ ∀ H', Q (.bl true) H'
theorem Parts.rev {H : Hp} {xs : List V} {ps : List (Str × Option Int)} (h : Parts H xs ps) : Parts H xs.reverse ps.reverse := by
  refine ⟨by simp [h.1], by simp [h.2.1], by rw [List.map_reverse]; exact (List.reverse_perm _).nodup_iff.mpr h.2.2.1, fun i x s hx hs => ?_⟩
  have hi := (List.getElem?_eq_some_iff.mp hx).1
  rw [List.length_reverse] at hi
  rw [List.getElem?_reverse hi] at hx
  rw [List.getElem?_reverse (by rw [← h.1]; exact hi)] at hs
  rw [← h.1] at hs
  exact h.2.2.2 _ x s hx hs
theorem ok_law {f : Addr} {fd : FuncData} (F : Fun K "law" "law" s_law f fd) (c__law_begin : Cal P w K mg base "_law_begin" 1 (spBegin K)) (c__law_draw : Cal P w K mg base "_law_draw" 1 spDraw) (k0 : Nat) (hk : k0 ≤ 30) (c__law_program : Cal P w K mg base "_law_program" k0 spProg)
    (c__law_more_entries : Cal P w K mg base "_law_more_entries" 2 spMore) (c_entries_of : Cal P w K mg base "entries_of" 1 spEnts) (c__law_told_right : Cal P w K mg base "_law_told_right" 2 spRight) (T : Tx mg) : FnOk P w K mg base CX0 31 f fd ["_law_script"] (spLaw K) := by
  refine F.ok sc_law (fun vs H Q E h => ?_) (fun cdv A outer s H vs Q E hr h => ?_)
  · obtain ⟨a, ns, rfl, _⟩ := h
    rfl
  · obtain ⟨a, ns, rfl, hS, hl, q⟩ := h
    refine ⟨_, 
      (pss_cons (ps_set (i := 1) sc_law.nd rfl (Or.inl rfl) (Zn.pe_cal c__law_begin (hr.mono (by omega)) (by rfl) (pa_cons (pv 0) pa_nil)))
      (pss_cons (ps_asg (Zn.pe_cal c__law_program (hr.mono (by omega)) (by rfl) (pa_cons (pv 1) (pa_cons (Zn.pe_cal c__law_draw (hr.mono (by omega)) (by rfl) (pa_cons (pv 1) (pa_cons pe_int pa_nil))) pa_nil))) (pg_tup (by rfl) (pgs_cons (pg_name (i := 2) sc_law.nd rfl (Or.inr rfl)) (pgs_cons (pg_name (i := 3) sc_law.nd rfl (Or.inl rfl)) pgs_nil))))
      (pss_cons (ps_if (pt_truth (Zn.pe_cal c__law_draw (hr.mono (by omega)) (by rfl) (pa_cons (pv 1) (pa_cons pe_int pa_nil))) (by intro _; rfl)) 
       (pss_one (ps_set (i := 2) sc_law.nd rfl (Or.inr rfl) (Zn.pe_cal c__law_more_entries (hr.mono (by omega)) (by rfl) (pa_cons (pv 1) (pa_cons (pv 2) pa_nil))))) pss_nil)
      (pss_cons (ps_if (PW.pt (pw_or (pt_cmpR (r := rIn K true) op_notIn_seq (pv 3) (Zn.pe_cal c_entries_of (hr.mono (by omega)) (by rfl) (pa_cons (pv 2) pa_nil)) (by rfl)) (pw_or1 (pt_not (pt_val (Zn.pe_cal c__law_told_right (hr.mono (by omega)) (by rfl) (pa_cons (pv 2) pa_nil))))))) 
       (pss_one (ps_ret pe_bl)) pss_nil)
      (pss_one (ps_ret (Zn.pe_cal c__law_told_right (hr.mono (by omega)) (by rfl) (pa_cons (pe_callTy call_tuple_of (by rfl) T.z_tuple (by decide +kernel) (pa_cons (pe_lc (own := [("_law_k", 4)]) rfl sc_law.nd (pi_range3 (by rfl) T.z_range (pa_cons (pe_op op_sub (pe_callB call_len_seq (by rfl) T.z_len (by decide +kernel) (pa_cons (pv 2) pa_nil)) pe_int) (pa_cons (pe_un un_neg pe_int) (pa_cons (pe_un un_neg pe_int) pa_nil)))) (blkOk_by (N := ["_law_script", "_law_d", "_law_program_here", "_law_entry", "_law_k"]) (sc := defScope s_law) (by decide +kernel)) (fun _ _ _ _ _ => (pg_name (i := 4) sc_law.nd rfl (Or.inl rfl))) (fun _ _ _ _ _ => pts_nil) (fun _ _ _ _ _ => (pe_ix (r := rIxT K) ix_tup (pv 2) (pv 4) (fun _ _ => rfl)))) pa_nil)) pa_nil)))))))), ?_⟩
    walk_at "rs"
    refine ⟨a, ns, rfl, hS, hl, fun H1 d c s1 hd D1 => ?_⟩
    walk_at "rs"
    refine ⟨d, c, _, rfl, D1, by decide, by decide, fun m zs m0 m1 D2 => ?_⟩
    walk_at "rs"
    refine ⟨d, c, m, rfl, D2, m0, m1, fun H3 p pr xs ps nm D3 hpr hP hnm hp => ?_⟩
    walk_at "rs"
    refine ⟨d, c, _, rfl, D3, by decide, by decide, fun b zs2 b0 b1 D4 => ?_⟩
    have k4 : Kp [d] H3 (upd H3 d (.lst zs2)) := .drw D3 (by simp)
    walk_at "rs"
    refine ite_nx (fun σ H' => ∃ pr xs ps, σ = [some (.ref a), some (.ref d), some (.ref pr), some (.str nm), none] ∧ Drw H' d c ∧ H' pr = some (.tup xs) ∧ Parts H' xs ps ∧ nm ∈ ents ps) ?_ (fun h nx' hx => ?_) (fun h nx' hx => ?_)
    rotate_left
    · walk_at "rs"
      refine ⟨d, c, pr, xs, ps, rfl, D4, k4.t _ _ hpr, hP.kp k4, fun H5 p5 xs5 ps5 D5 hp5 hP5 he5 => ?_⟩
      walk_at "rs"
      exact hx _ _ ⟨p5, xs5, ps5, rfl, D5, hp5, hP5, he5 _ hnm⟩
    · walk_at "rs"
      exact hx _ _ ⟨pr, xs, ps, rfl, D4, k4.t _ _ hpr, hP.kp k4, hnm⟩
    clear hpr hP hnm hp
    rintro σ H5 ⟨pr, xs, ps, rfl, D5, hpr, hP, hnm⟩
    walk_at "rs"
    refine ⟨pr, xs, ps, rfl, hpr, hP, fun H6 p6 s6 hp6 => ?_⟩
    refine r_inN (.inr (st_of hp6)) rfl (all_flat _) ?_
    rw [in_mem hnm]
    walk_at "rs"
    refine ⟨pr, xs, ps, rfl, s6 _ _ hpr, hP.kp (.same (S := []) s6), fun H7 s7 => ?_⟩
    have hpr7 := s7 _ _ (s6 _ _ hpr)
    have hP7 := hP.kp (.same (S := []) (s6.trans s7))
    have hl100 := hP.2.1
    walk_at "rs"
    refine r_rng3 ?_
    walk_at "rs"
    refine ⟨_, _, _, _, rfl, RgC.neg (by omega) (by omega) (by decide) (by decide), fun C hC => ?_⟩
    have hn : ((xs.length : Int) - 1 - -1).toNat = xs.length := by omega
    refine lc_rangeC (fun i H' => Same H7 H' ∧ H' C = some (.lst (xs.reverse.take i))) ⟨same_new hC, upd_same⟩ (fun i H' hi ⟨s8, hc⟩ => ?_) (fun H' ⟨s8, hc⟩ => ?_)
    · have hi : i < xs.length := by
        have : i < ((xs.length : Int) - 1 - -1).toNat := hi
        omega
      have hpr8 := s8 _ _ hpr7
      have hrev : xs.reverse[i]? = some xs[xs.length - 1 - i] := by
        rw [List.getElem?_reverse hi, List.getElem?_eq_getElem (by omega)]
      walk_at "rs"
      refine ⟨rfl, ?_⟩
      walk_at "rs"
      refine r_ixT (v := xs[xs.length - 1 - i]) (st_of hpr8) (atI_lt (j := xs.length - 1 - i) (by omega) (List.getElem?_eq_getElem (by omega))) ?_
      refine ⟨_, hc, ?_, Same.mut s8 hC, ?_⟩
      · rw [List.length_take, List.length_reverse]
        exact Nat.lt_of_le_of_lt (show min i xs.length ≤ 1000 by omega) (by decide)
      · rw [upd_same, List.take_add_one, hrev]
        rfl
    · have hc : H' C = some (.lst xs.reverse) := by
        rw [show ((xs.length : Int) - 1 - -1).toNat = xs.length from hn, List.take_of_length_le (by rw [List.length_reverse]; exact Nat.le_refl _)] at hc
        exact hc
      walk_at "rs"
      refine ⟨C, _, rfl, .inl ⟨sl_of hc, fun l hl => ?_⟩⟩
      walk_at "rs"
      exact ⟨l, _, ps.reverse, rfl, upd_same, (hP7.kp (.same (S := []) (s8.trans (same_new hl)))).rev, fun H9 _ => q H9⟩
end
end Zn
namespace Zn
open PySem PySem.Spec PyProof.Rows L2 TL
theorem EnvAt.new {S : List Addr} {H : Hp} {e r0 r1 r2 r3 r4 r5 r6 : Addr} {l0 l4 : List V} {k : Int} (hat : H e = some (.lst [.ref r0, .ref r1, .ref r2, .ref r3, .ref r4, .ref r5, .ref r6, .int k]))
    (a0 : H r0 = some (.lst l0)) (a1 : H r1 = some (.lst [])) (a2 : H r2 = some (.lst [])) (a3 : H r3 = some (.lst [])) (a4 : H r4 = some (.lst l4)) (a5 : H r5 = some (.lst [])) (a6 : H r6 = some (.lst []))
    (n0 : r0 ∉ S) (n1 : r1 ∉ S) (n2 : r2 ∉ S) (n3 : r3 ∉ S) (n4 : r4 ∉ S) (n5 : r5 ∉ S) (n6 : r6 ∉ S) (p0 : ∀ x ∈ l0, Row H x) (p4 : ∀ x ∈ l4, PartC H x) (z0 : l0.length ≤ 100) (z4 : l4.length ≤ 100) :
    EnvAt S H e ⟨r0, r1, r2, r3, r4, r5, r6, l0, [], [], [], l4, [], []⟩ k :=
  { at_ := hat, a0 := a0, a1 := a1, a2 := a2, a3 := a3, a4 := a4, a5 := a5, a6 := a6, n0 := n0, n1 := n1, n2 := n2, n3 := n3, n4 := n4, n5 := n5, n6 := n6,
    p0 := p0, p1 := all_nil, p2 := all_nil, p3 := all_nil, p4 := p4, p5 := all_nil, p6 := fun h => absurd rfl h, z0 := z0, z1 := Nat.zero_le _, z2 := Nat.zero_le _, z3 := Nat.zero_le _, z4 := z4, z5 := Nat.zero_le _ }
theorem not3 {a d e p : Addr} (h1 : a ≠ d) (h2 : a ≠ e) (h3 : a ≠ p) : a ∉ [d, e, p] := by simp [h1, h2, h3]
section
variable {P : Program} {w : World} {K : PySem.W.Frag} {mg : Str → Option Value} {base : Heap}
theorem PoolAt.kp {S : List Addr} {H H' : Hp} {pl : Addr} {ps : List Str} (h : PoolAt H pl ps) (k : Kp S H H') (n : pl ∉ S) : PoolAt H' pl ps := ⟨k.x _ _ n h.at_, h.nd, h.ok⟩
def spExt : Sp := fun vs H Q _ => ∃ (d c pl : Addr) (ps : List Str), vs = [.ref d, .ref pl] ∧ Drw H d c ∧ pl ≠ d ∧ pl ≠ c ∧ PoolAt H pl ps ∧ 5 ≤ ps.length ∧ ps.length ≤ 1000 ∧
  ∀ H' p qs nm q (u : Int) rest rs, Kp [d, pl] H H' → Drw H' d c → PoolAt H' pl qs → ps.length ≤ qs.length + 4 → qs.length ≤ ps.length → (∀ x ∈ qs, x ∈ ps) → nm ∈ ps → nm ∉ qs → okB nm = true →
    H' p = some (.tup (.str "external" :: .str nm :: .ref q :: .int u :: rest)) → H' q = some (.tup rs) → rs.length ≤ 100 → (∀ r ∈ rs, Row H' r) → Tree 40 H' (.ref p) → Q (.ref p) H'
theorem ok_external {f : Addr} {fd : FuncData} (F : Fun K "_law_external" "_law_external" s__law_external f fd) (c__law_draw : Cal P w K mg base "_law_draw" 1 spDraw) (c__law_pop : Cal P w K mg base "_law_pop" 2 spPop) (c__law_leaf : Cal P w K mg base "_law_leaf" 3 spLeaf) (c__law_relation : Cal P w K mg base "_law_relation" 11 (spRel 3)) (T : Tx mg) :
    FnOk P w K mg base CX0 12 f fd ["_law_d", "_law_pool_here"] spExt := by
  refine F.ok sc__law_external (fun vs H Q E h => ?_) (fun cdv A outer s H vs Q E hr h => ?_)
  · obtain ⟨d, c, pl, ps, rfl, _⟩ := h
    rfl
  · obtain ⟨d, c, pl, ps, rfl, hD, npd, npc, hp, h5, h6, q⟩ := h
    refine ⟨_, 
      (pss_cons (ps_set (i := 2) sc__law_external.nd rfl (Or.inl rfl) (pe_callTy call_tuple_of (by rfl) T.z_tuple (by decide +kernel) (pa_cons (pe_lc (own := [("_law_k", 3)]) rfl sc__law_external.nd (pi_range1 (by rfl) T.z_range (pa_cons (Zn.pe_cal c__law_draw (hr.mono (by decide)) (by rfl) (pa_cons (pv 0) (pa_cons pe_int pa_nil))) pa_nil)) (blkOk_by (N := ["_law_d", "_law_pool_here", "_law_params", "_law_k", "_law_env", "_law_width", "_law_needs", "_law_sides", "_law_at", "_law_gives"]) (sc := defScope s__law_external) (by decide +kernel)) (fun _ _ _ _ _ => (pg_name (i := 3) sc__law_external.nd rfl (Or.inl rfl))) (fun _ _ _ _ _ => pts_nil) (fun _ _ _ _ _ => (pe_tup (pa_cons (Zn.pe_cal c__law_pop (hr.mono (by decide)) (by rfl) (pa_cons (pv 0) (pa_cons (pv 1) pa_nil))) (pa_cons (pe_op op_add pe_int (Zn.pe_cal c__law_draw (hr.mono (by decide)) (by rfl) (pa_cons (pv 0) (pa_cons pe_int pa_nil)))) pa_nil))))) pa_nil)))
      (pss_cons (ps_set (i := 4) sc__law_external.nd rfl (Or.inl rfl) (pe_lst (pa_cons (pe_callTy call_list_of (by rfl) T.z_list (by decide +kernel) (pa_cons (pv 2) pa_nil)) (pa_cons (pe_lst pa_nil) (pa_cons (pe_lst pa_nil) (pa_cons (pe_lst pa_nil) (pa_cons (pe_lst pa_nil) (pa_cons (pe_lst pa_nil) (pa_cons (pe_lst pa_nil) (pa_cons pe_int pa_nil))))))))))
      (pss_cons (ps_set (i := 5) sc__law_external.nd rfl (Or.inl rfl) (pe_op op_add pe_int (pe_callTy call_int1 (by rfl) T.z_int (by decide +kernel) (pa_cons (pe_cmpR op_eq (Zn.pe_cal c__law_draw (hr.mono (by decide)) (by rfl) (pa_cons (pv 0) (pa_cons pe_int pa_nil))) pe_int (nomark _)) pa_nil))))
      (pss_cons (ps_set (i := 6) sc__law_external.nd rfl (Or.inl rfl) (pe_ifExp (PW.pt (pw_and (pt_truth (pv 2) (by intro _; rfl)) (pw_and1 (pt_truth (Zn.pe_cal c__law_draw (hr.mono (by decide)) (by rfl) (pa_cons (pv 0) (pa_cons pe_int pa_nil))) (by intro _; rfl))))) (Zn.pe_cal c__law_relation (hr.mono (by decide)) (by rfl) (pa_cons (pv 0) (pa_cons (pv 4) (pa_cons pe_int pa_nil)))) (pe_tup (pa_cons pe_str (pa_cons pe_int (pa_cons pe_int pa_nil))))))
      (pss_cons (ps_set (i := 7) sc__law_external.nd rfl (Or.inl rfl) (pe_lst (pa_cons (pe_tup (pa_cons pe_str (pa_cons pe_str pa_nil))) (pa_cons (Zn.pe_cal c__law_leaf (hr.mono (by decide)) (by rfl) (pa_cons (pv 0) (pa_cons (pv 4) (pa_cons (pv 5) pa_nil)))) pa_nil))))
      (pss_cons (ps_set (i := 8) sc__law_external.nd rfl (Or.inl rfl) (Zn.pe_cal c__law_draw (hr.mono (by decide)) (by rfl) (pa_cons (pv 0) (pa_cons pe_int pa_nil))))
      (pss_cons (ps_set (i := 9) sc__law_external.nd rfl (Or.inl rfl) (pe_tup (pa_cons pe_str (pa_cons (pe_ix (r := rIxL K) ix_list (pv 7) (pv 8) (fun _ _ => rfl)) (pa_cons (pe_ix (r := rIxL K) ix_list (pv 7) (pe_op op_sub pe_int (pv 8)) (fun _ _ => rfl)) pa_nil)))))
      (pss_one (ps_ret (pe_tup (pa_cons pe_str (pa_cons (Zn.pe_cal c__law_pop (hr.mono (by decide)) (by rfl) (pa_cons (pv 0) (pa_cons (pv 1) pa_nil))) (pa_cons (pv 2) (pa_cons (pv 5) (pa_cons (Zn.pe_cal c__law_draw (hr.mono (by decide)) (by rfl) (pa_cons (pv 0) (pa_cons pe_int pa_nil))) (pa_cons (pv 6) (pa_cons (pv 9) pa_nil))))))))))))))))), ?_⟩
    have dd : d ∈ [d] := by simp
    have up : ∀ {H1 H2 : Hp}, Kp [d] H1 H2 → Kp [d, pl] H1 H2 := fun k => k.mono (by simp)
    have npl : pl ∉ [d] := by simpa using npd
    have CD : ∀ H4 (m : Int) Q', Drw H4 d c → 1 ≤ m → m < 1000 → (∀ i H5, 0 ≤ i → i < m → Kp [d] H4 H5 → Drw H5 d c → Q' (.int i) H5) → spDraw [.ref d, .int m] H4 Q' E0 := fun H4 m Q' D4 m1 m2 q' =>
      ⟨d, c, m, rfl, D4, m1, by omega, fun i zs i0 i1 D5 => q' i _ i0 i1 (.drw D4 dd) D5⟩
    walk_at "rs"
    refine CD _ _ _ hD (by decide) (by decide) fun m H1 m0 m1 k1 D1 => ?_
    walk_at "rs"
    intro C hC
    have hp1 := hp.kp k1 npl
    have nCd : C ≠ d := (D1.nd hC).symm
    have nCp : C ≠ pl := (ne_of_none hp1.at_ hC).symm
    refine lc_range (fun i H' => ∃ xs qs, Kp [d, pl] H1 H' ∧ Drw H' d c ∧ H' C = some (.lst xs) ∧ xs.length = i ∧ (∀ x ∈ xs, Row H' x) ∧ PoolAt H' pl qs ∧ qs.length + i = ps.length ∧ ∀ x ∈ qs, x ∈ ps)
      ⟨[], ps, (Kp.refl _ _).new hC, D1.same (same_new hC), upd_same, rfl, all_nil, hp1.kp (S := []) (.same (same_new hC)) (by simp), rfl, fun x h => h⟩ (fun i H' hi ⟨xs, qs, k2, D2, hc, hl, hx, hq, hql, hqs⟩ => ?_) (fun H2 ⟨xs, qs, k2, D2, hc, hl, hx, hq, hql, hqs⟩ => ?_)
    · have hi : i < 3 := by
        have : i < m.toNat := hi
        omega
      walk_at "rs"
      refine ⟨rfl, ?_⟩
      walk_at "rs"
      refine ⟨d, c, pl, qs, rfl, D2, npd, npc, hq, by omega, by omega, fun H3 s3 qs3 k3 D3 hq3 m3 nm3 sub3 len3 ok3 => ?_⟩
      walk_at "rs"
      refine CD _ _ _ D3 (by decide) (by decide) fun u H4 u0 u1 k4 D4 => ?_
      have k34 := k3.trans (up k4)
      have hc4 := k34.x _ _ (by simp [nCd, nCp]) hc
      walk_at "rs"
      rename_i t ht
      have s5 := same_new (o := .tup [.str s3, .int (1 + u)]) ht
      have k5 := k34.trans (.same s5)
      have hc5 := s5 _ _ hc4
      have kC : Kp [C] (upd H4 t (.tup [.str s3, .int (1 + u)])) (upd (upd H4 t (.tup [.str s3, .int (1 + u)])) C (.lst (xs ++ [.ref t]))) := (Kp.refl _ _).set (by simp) hc5
      refine ⟨xs, hc5, Nat.lt_of_lt_of_le (show xs.length < 1000 by omega) (by decide), xs ++ [.ref t], qs3, (k2.trans k5).mut hC hc5, (D4.same s5).upd nCd.symm (D1.nc hC), upd_same, by simp [hl], ?_, ((hq3.kp k4 npl).kp (S := []) (.same s5) (by simp)).kp kC (by simpa using nCp.symm), by omega, fun x hx => hqs x (sub3 x hx)⟩
      exact mem_app (fun x m => ((hx x m).kp k5).kp kC) (all_cons (show Row _ (.ref t) from ⟨t, s3, 1 + u, rfl, kC.t _ _ upd_same, ok3, by omega, by omega⟩) all_nil)
    walk_at "rs"
    refine ⟨C, _, rfl, .inl ⟨sl_of hc, fun ap hap => ?_⟩⟩
    have sap := same_new (o := .tup xs) hap
    have hx' : ∀ x ∈ xs, Row (upd H2 ap (.tup xs)) x := fun x m => (hx x m).kp (.same (S := []) sap)
    have K2 : Kp [d, pl] H (upd H2 ap (.tup xs)) := ((up k1).trans k2).new hap
    have Dap := D2.same sap
    have hqa := hq.kp (S := []) (.same sap) (by simp)
    have hml : xs.length ≤ 3 := by omega
    walk_at "rs"
    refine ⟨ap, xs, rfl, .inr (st_of upd_same), fun l hl => ?_⟩
    walk_at "rs"
    rename_i a1 e1 a2 e2 a3 e3 a4 e4 a5 e5 a6 e6 ev ee
    have f1 := Same.free (H := upd H2 ap (.tup xs)) (by walk_at "sm") e1
    have f2 := Same.free (H := upd H2 ap (.tup xs)) (by walk_at "sm") e2
    have f3 := Same.free (H := upd H2 ap (.tup xs)) (by walk_at "sm") e3
    have f4 := Same.free (H := upd H2 ap (.tup xs)) (by walk_at "sm") e4
    have f5 := Same.free (H := upd H2 ap (.tup xs)) (by walk_at "sm") e5
    have f6 := Same.free (H := upd H2 ap (.tup xs)) (by walk_at "sm") e6
    have fe := Same.free (H := upd H2 ap (.tup xs)) (by walk_at "sm") ee
    have nd : ∀ {a : Addr}, upd H2 ap (.tup xs) a = none → a ≠ d := fun h => (Dap.nd h).symm
    have np : ∀ {a : Addr}, upd H2 ap (.tup xs) a = none → a ≠ pl := fun h => (ne_of_none hqa.at_ h).symm
    have nev : ev ∉ [d] := by simpa using nd fe
    have v0 : l ≠ ev := ne_of_none (o := .lst xs) (by walk_at "fd") ee
    have v1 : a1 ≠ ev := ne_of_none (o := .lst []) (by walk_at "fd") ee
    have v2 : a2 ≠ ev := ne_of_none (o := .lst []) (by walk_at "fd") ee
    have v3 : a3 ≠ ev := ne_of_none (o := .lst []) (by walk_at "fd") ee
    have v4 : a4 ≠ ev := ne_of_none (o := .lst []) (by walk_at "fd") ee
    have v5 : a5 ≠ ev := ne_of_none (o := .lst []) (by walk_at "fd") ee
    have v6 : a6 ≠ ev := ne_of_none (o := .lst []) (by walk_at "fd") ee
    refine CD _ _ _ (Dap.same (by walk_at "sm")) (by decide) (by decide) fun z H3 z0 z1 k3 D3 => ?_
    have kf : Kp [d] (upd H2 ap (.tup xs)) H3 := Kp.trans (.same (by walk_at "sm")) k3
    have G3 : EnvAt [d, ev, pl] H3 ev ⟨l, a1, a2, a3, a4, a5, a6, xs, [], [], [], [], [], []⟩ 0 := EnvAt.kp (S' := [d]) (by
      refine EnvAt.new upd_same (by walk_at "fd") (by walk_at "fd") (by walk_at "fd") (by walk_at "fd") (by walk_at "fd") (by walk_at "fd") (by walk_at "fd") (not3 (nd hl) v0 (np hl)) (not3 (nd f1) v1 (np f1)) (not3 (nd f2) v2 (np f2)) (not3 (nd f3) v3 (np f3)) (not3 (nd f4) v4 (np f4)) (not3 (nd f5) v5 (np f5)) (not3 (nd f6) v6 (np f6)) (fun x m => (hx' x m).kp (.same (S := []) (by walk_at "sm"))) all_nil (by omega) (Nat.zero_le _)) k3 nev (by simp)
    have K3 := K2.trans (up kf)
    have hq3 := hqa.kp kf npl
    have ht3 := kf.t _ _ (show upd H2 ap (.tup xs) ap = _ from upd_same)
    have hdS : d ∈ [d, ev, pl] := by simp
    walk_at "rt"
    have hw : ∃ u : Int, (1 + if decide (V.int z = V.int 1) = true then 1 else 0 : Int) = u ∧ 1 ≤ u ∧ u ≤ 8 := ⟨_, rfl, by split <;> omega, by split <;> omega⟩
    obtain ⟨u, eu, u1, u8⟩ := hw
    rw [eu]
    refine seq_nx (fun σ H' => ∃ v, σ = [some (.ref d), some (.ref pl), some (.ref ap), none, some (.ref ev), some (.int u), some v, none, none, none] ∧ Kp [d] H3 H' ∧ Drw H' d c ∧ Tree 9 H' v) ?_ (fun nx' hx => ?_)
    rotate_left
    · walk_at "rs"
      have word : ∀ H4, Kp [d] H3 H4 → Drw H4 d c → ∀ p, H4 p = none → nx' [some (.ref d), some (.ref pl), some (.ref ap), none, some (.ref ev), some (.int u), some (.ref p), none, none, none] (upd H4 p (.tup [.str "word", .int 1, .int 1])) := fun H4 k4 D4 p hp =>
        hx _ _ ⟨_, rfl, k4.new hp, D4.same (same_new hp), (Tree.tup (n := 0) hp (all_cons (.str (by decide +kernel)) (all_cons .int (all_cons .int all_nil)))).le (by omega)⟩
      refine ite2 (fun h => ?_) (fun h => ?_)
      · walk_at "rs"
        refine CD _ _ _ D3 (by decide) (by decide) fun z2 H4 z20 z21 k4 D4 => ?_
        walk_at "rs"
        refine ite2 (fun h2 => ?_) (fun h2 => ?_)
        · walk_at "rs"
          refine ⟨d, c, ev, _, _, _, 0, rfl, D4, hdS, nd fe, G3.kp k4 nev (by simp), by decide, by decide, fun H5 v5 k5 D5 t5 => ?_⟩
          walk_at "rs"
          exact hx _ _ ⟨_, rfl, k4.trans k5, D5, t5.le (by omega)⟩
        · walk_at "rs"
          rename_i p hp
          exact word _ k4 D4 p hp
      · walk_at "rs"
        rename_i p hp
        exact word _ (.refl _ _) D3 p hp
    rintro σ H4 ⟨v4, rfl, k4, D4, t4⟩
    have G4 := G3.kp k4 nev (by simp)
    walk_at "rs"
    rename_i b1 hb1
    have sb1 := same_new (o := .tup [.str "name", .str "result"]) hb1
    have tb1 := Tree.tup (n := 0) (xs := [.str "name", .str "result"]) hb1 (all_cons (.str (by decide +kernel)) (all_cons (.str (by decide +kernel)) all_nil))
    refine ⟨d, c, ev, _, _, _, u, rfl, D4.same sb1, hdS, nd fe, G4.same sb1, u1, u8, fun H5 v5 k5 D5 t5 => ?_⟩
    have k45 := (Kp.same (S := [d]) sb1).trans k5
    have t45 := t4.kp k45
    have tb5 := tb1.kp k5
    walk_at "rs"
    rename_i b2 hb2
    have sb2 := same_new (o := .lst [.ref b1, v5]) hb2
    have nb2 : b2 ≠ d := (D5.nd hb2).symm
    refine CD _ _ _ (D5.same sb2) (by decide) (by decide) fun a H6 h0a h1a k6 D6 => ?_
    have k56 := (Kp.same (S := [d]) sb2).trans k6
    have hb26 : H6 b2 = some (.lst [.ref b1, v5]) := k6.x _ _ (by simpa using nb2) upd_same
    have tv : Tree 2 H6 v5 := t5.kp k56
    have tb : Tree 2 H6 (.ref b1) := (tb5.kp k56).le (by omega)
    have pick : ∀ i : Int, 0 ≤ i → i < 2 → ∃ x, atI [V.ref b1, v5] i = some x ∧ Tree 2 H6 x := fun i i0 i1 => by
      have : i = 0 ∨ i = 1 := by omega
      rcases this with rfl | rfl
      · exact ⟨_, rfl, tb⟩
      · exact ⟨_, rfl, tv⟩
    obtain ⟨x1, ex1, tx1⟩ := pick a h0a h1a
    obtain ⟨x2, ex2, tx2⟩ := pick (1 - a) (by omega) (by omega)
    walk_at "rs"
    refine r_ixL (sl_of hb26) ex1 ?_
    walk_at "rs"
    refine r_ixL (sl_of hb26) ex2 ?_
    walk_at "rs"
    rename_i b3 hb3
    have sb3 := same_new (o := .tup [.str "<=", x1, x2]) hb3
    have tb3 := Tree.tup (n := 2) (xs := [.str "<=", x1, x2]) hb3 (all_cons (.str (by decide +kernel)) (all_cons tx1 (all_cons tx2 all_nil)))
    have K6 : Kp [d] H3 _ := ((k4.trans k45).trans k56).trans (.same sb3)
    have hq6 := hq3.kp K6 npl
    refine ⟨d, c, pl, qs, rfl, D6.same sb3, npd, npc, hq6, by omega, by omega, fun H7 s7 qs7 k7 D7 hq7 m7 nm7 sub7 len7 ok7 => ?_⟩
    walk_at "rs"
    refine CD _ _ _ D7 (by decide) (by decide) fun st H8 st0 st1 k8 D8 => ?_
    walk_at "rs"
    rename_i b4 hb4
    have k78 := k7.trans (up k8)
    have K8 := ((K3.trans (up K6)).trans k78)
    have ht8 := k78.t _ _ (K6.t _ _ ht3)
    have K4 := (up K6).trans k78
    have hx8 : ∀ x ∈ xs, Row H8 x := fun x m => (((hx' x m).kp kf).kp (up K6)).kp k78
    have sb4 := same_new (o := .tup [.str "external", .str s7, .ref ap, .int u, .int st, v4, .ref b3]) hb4
    have tall : Tree 10 (upd H8 b4 (.tup [.str "external", .str s7, .ref ap, .int u, .int st, v4, .ref b3])) (.ref b4) := by
      refine Tree.tup hb4 (all_cons (.str (by decide +kernel)) (all_cons (.str ok7) (all_cons ?_ (all_cons .int (all_cons .int (all_cons ?_ (all_cons ?_ all_nil)))))))
      · exact (Tree.mk (n := 1) ht8 fun x m => .row (hx8 x m)).le (by omega)
      · exact ((t45.kp k56).kp (.same (S := []) sb3)).kp k78
      · exact (tb3.kp k78).le (by omega)
    exact q _ b4 qs7 s7 ap u _ xs (K8.trans (.same sb4)) (D8.same sb4) ((hq7.kp k8 npl).kp (S := []) (.same sb4) (by simp)) (by omega) (by omega) (fun x m => hqs x (sub7 x m)) (hqs _ m7) nm7 ok7 upd_same (sb4 _ _ ht8) (by omega) (fun x m => (hx8 x m).kp (.same (S := []) sb4)) (tall.le (by omega))
end
end Zn
namespace Zn
open PySem PySem.Spec PyProof.Rows L2 TL
section
variable {P : Program} {w : World} {K : PySem.W.Frag} {mg : Str → Option Value} {base : Heap}
/-- a record of two fields, the second one a reference to itself; or none -/
def RecAt (H : Hp) (r : V) : Prop := r = .non ∨ ∃ rp rn fs g1 g2 f1 fw f2, r = .ref rp ∧ H rp = some (.tup [.str "record", .str rn, .ref fs]) ∧ H fs = some (.tup [.ref g1, .ref g2]) ∧ H g1 = some (.tup [.str f1, .int fw]) ∧ H g2 = some (.tup [.str f2, .str rn]) ∧
  okB rn = true ∧ okB f1 = true ∧ okB f2 = true ∧ 1 ≤ fw ∧ fw ≤ 8
theorem RecAt.kp {S : List Addr} {H H' : Hp} {r : V} (k : Kp S H H') (h : RecAt H r) : RecAt H' r := by
  rcases h with h | ⟨rp, rn, fs, g1, g2, f1, fw, f2, e, h1, h2, h3, h4, h5⟩
  · exact .inl h
  · exact .inr ⟨rp, rn, fs, g1, g2, f1, fw, f2, e, k.t _ _ h1, k.t _ _ h2, k.t _ _ h3, k.t _ _ h4, h5⟩
/-- how far a pool has been drawn from -/
structure Pl (d c pl : Addr) (ps : List Str) (H H' : Hp) (j : Nat) (qs : List Str) : Prop where
  k : Kp [d, pl] H H'
  D : Drw H' d c
  at_ : PoolAt H' pl qs
  len : ps.length ≤ qs.length + j
  le : qs.length ≤ ps.length
  sub : ∀ x ∈ qs, x ∈ ps
theorem Pl.kp {d c pl : Addr} {ps qs : List Str} {H H1 H2 : Hp} {j : Nat} (h : Pl d c pl ps H H1 j qs) (k : Kp [d] H1 H2) (D : Drw H2 d c) (n : pl ≠ d) : Pl d c pl ps H H2 j qs :=
  ⟨h.k.trans (k.mono (by simp)), D, h.at_.kp k (by simpa using n), h.len, h.le, h.sub⟩
theorem Pl.same {d c pl : Addr} {ps qs : List Str} {H H1 H2 : Hp} {j : Nat} (h : Pl d c pl ps H H1 j qs) (s : Same H1 H2) : Pl d c pl ps H H2 j qs :=
  ⟨h.k.trans (.same s), h.D.same s, h.at_.kp (S := []) (.same s) (by simp), h.len, h.le, h.sub⟩
theorem Pl.wk {d c pl : Addr} {ps qs : List Str} {H H1 : Hp} {j j' : Nat} (h : Pl d c pl ps H H1 j qs) (hj : j ≤ j') : Pl d c pl ps H H1 j' qs := ⟨h.k, h.D, h.at_, Nat.le_trans h.len (by omega), h.le, h.sub⟩
/-- a list of one's own changes, made behind H -/
theorem Pl.mut {d c pl C : Addr} {ps qs : List Str} {H H1 : Hp} {j : Nat} {l : List V} {o : HO} (h : Pl d c pl ps H H1 j qs) (h0 : H C = none) (hc : H1 C = some (.lst l)) (nd : C ≠ d) (np : C ≠ pl) (nc : c ≠ C) : Pl d c pl ps H (upd H1 C o) j qs :=
  ⟨h.k.mut h0 hc, h.D.upd nd.symm nc, h.at_.kp ((Kp.refl [C] _).set (by simp) hc) (by simpa using np.symm), h.len, h.le, h.sub⟩
theorem Pl.pop {d c pl : Addr} {ps qs : List Str} {H H1 : Hp} {j : Nat} {Q : VK} (h : Pl d c pl ps H H1 j qs) (npd : pl ≠ d) (npc : pl ≠ c) (h1 : ps.length ≤ 1000) (hj : j < ps.length)
    (q : ∀ H2 s qs2, Kp [d, pl] H1 H2 → Pl d c pl ps H H2 (j + 1) qs2 → okB s = true → s ∈ ps → s ∉ qs2 → Q (.str s) H2) : spPop [.ref d, .ref pl] H1 Q E0 := by
  have h2 := h.len
  have h3 := h.le
  exact ⟨d, c, pl, qs, rfl, h.D, npd, npc, h.at_, by omega, by omega, fun H2 s qs2 k D hq m nm sub len ok => q H2 s qs2 k ⟨h.k.trans k, D, hq, by omega, by omega, fun x hx => h.sub x (sub x hx)⟩ ok (h.sub _ m) nm⟩
theorem EnvAt.put1 {S : List Addr} {H : Hp} {e a : Addr} {g : EnvD} {k : Int} {l : List V} (G : EnvAt S H e g k) (he : e ∈ S) (ha : H a = some (.lst l)) (na : a ∉ S) (hl : ∀ x ∈ l, Item H x) (z : l.length ≤ 100) :
    EnvAt S (upd H e (.lst [.ref g.r0, .ref a, .ref g.r2, .ref g.r3, .ref g.r4, .ref g.r5, .ref g.r6, .int k])) e { g with r1 := a, l1 := l } k := by
  have h : Kp [e] H (upd H e (.lst [.ref g.r0, .ref a, .ref g.r2, .ref g.r3, .ref g.r4, .ref g.r5, .ref g.r6, .int k])) := (Kp.refl _ _).set (by simp) G.at_
  have f : ∀ r, r ∉ S → r ∉ [e] := fun r n m => n (by rw [List.mem_singleton] at m; exact m ▸ he)
  exact
  { at_ := upd_same, a0 := h.x _ _ (f _ G.n0) G.a0, a1 := h.x _ _ (f _ na) ha, a2 := h.x _ _ (f _ G.n2) G.a2, a3 := h.x _ _ (f _ G.n3) G.a3,
    a4 := h.x _ _ (f _ G.n4) G.a4, a5 := h.x _ _ (f _ G.n5) G.a5, a6 := h.x _ _ (f _ G.n6) G.a6,
    n0 := G.n0, n1 := na, n2 := G.n2, n3 := G.n3, n4 := G.n4, n5 := G.n5, n6 := G.n6,
    p0 := fun x m => (G.p0 x m).kp h, p1 := fun x m => (hl x m).kp h, p2 := fun x m => (G.p2 x m).kp h, p3 := G.p3, p4 := fun x m => (G.p4 x m).kp h, p5 := G.p5, p6 := G.p6,
    z0 := G.z0, z1 := z, z2 := G.z2, z3 := G.z3, z4 := G.z4, z5 := G.z5 }
theorem EnvAt.put5 {S : List Addr} {H : Hp} {e a : Addr} {g : EnvD} {k : Int} {l : List V} (G : EnvAt S H e g k) (he : e ∈ S) (ha : H a = some (.lst l)) (na : a ∉ S) (hl : ∀ x ∈ l, Nm x) (z : l.length ≤ 100) :
    EnvAt S (upd H e (.lst [.ref g.r0, .ref g.r1, .ref g.r2, .ref g.r3, .ref g.r4, .ref a, .ref g.r6, .int k])) e { g with r5 := a, l5 := l } k := by
  have h : Kp [e] H (upd H e (.lst [.ref g.r0, .ref g.r1, .ref g.r2, .ref g.r3, .ref g.r4, .ref a, .ref g.r6, .int k])) := (Kp.refl _ _).set (by simp) G.at_
  have f : ∀ r, r ∉ S → r ∉ [e] := fun r n m => n (by rw [List.mem_singleton] at m; exact m ▸ he)
  exact
  { at_ := upd_same, a0 := h.x _ _ (f _ G.n0) G.a0, a1 := h.x _ _ (f _ G.n1) G.a1, a2 := h.x _ _ (f _ G.n2) G.a2, a3 := h.x _ _ (f _ G.n3) G.a3,
    a4 := h.x _ _ (f _ G.n4) G.a4, a5 := h.x _ _ (f _ na) ha, a6 := h.x _ _ (f _ G.n6) G.a6,
    n0 := G.n0, n1 := G.n1, n2 := G.n2, n3 := G.n3, n4 := G.n4, n5 := na, n6 := G.n6,
    p0 := fun x m => (G.p0 x m).kp h, p1 := fun x m => (G.p1 x m).kp h, p2 := fun x m => (G.p2 x m).kp h, p3 := G.p3, p4 := fun x m => (G.p4 x m).kp h, p5 := hl, p6 := G.p6,
    z0 := G.z0, z1 := G.z1, z2 := G.z2, z3 := G.z3, z4 := G.z4, z5 := z }
theorem EnvAt.put6 {S : List Addr} {H : Hp} {e a : Addr} {g : EnvD} {k : Int} {l : List V} (G : EnvAt S H e g k) (he : e ∈ S) (ha : H a = some (.lst l)) (na : a ∉ S) (h3 : g.l3 = []) :
    EnvAt S (upd H e (.lst [.ref g.r0, .ref g.r1, .ref g.r2, .ref g.r3, .ref g.r4, .ref g.r5, .ref a, .int k])) e { g with r6 := a, l6 := l } k := by
  have h : Kp [e] H (upd H e (.lst [.ref g.r0, .ref g.r1, .ref g.r2, .ref g.r3, .ref g.r4, .ref g.r5, .ref a, .int k])) := (Kp.refl _ _).set (by simp) G.at_
  have f : ∀ r, r ∉ S → r ∉ [e] := fun r n m => n (by rw [List.mem_singleton] at m; exact m ▸ he)
  exact
  { at_ := upd_same, a0 := h.x _ _ (f _ G.n0) G.a0, a1 := h.x _ _ (f _ G.n1) G.a1, a2 := h.x _ _ (f _ G.n2) G.a2, a3 := h.x _ _ (f _ G.n3) G.a3,
    a4 := h.x _ _ (f _ G.n4) G.a4, a5 := h.x _ _ (f _ G.n5) G.a5, a6 := h.x _ _ (f _ na) ha,
    n0 := G.n0, n1 := G.n1, n2 := G.n2, n3 := G.n3, n4 := G.n4, n5 := G.n5, n6 := na,
    p0 := fun x m => (G.p0 x m).kp h, p1 := fun x m => (G.p1 x m).kp h, p2 := fun x m => (G.p2 x m).kp h, p3 := G.p3, p4 := fun x m => (G.p4 x m).kp h, p5 := G.p5, p6 := fun k => absurd h3 k,
    z0 := G.z0, z1 := G.z1, z2 := G.z2, z3 := G.z3, z4 := G.z4, z5 := G.z5 }
/-- two lists are new -/
theorem EnvAt.rec23 {S : List Addr} {H H' : Hp} {e x2 x3 : Addr} {g : EnvD} {k : Int} {y2 y3 : List V} (G : EnvAt S H e g k) (h : Kp S H H') (hat : H' e = some (.lst [.ref g.r0, .ref g.r1, .ref x2, .ref x3, .ref g.r4, .ref g.r5, .ref g.r6, .int k]))
    (h2 : H' x2 = some (.lst y2)) (h3 : H' x3 = some (.lst y3)) (n2 : x2 ∉ S) (n3 : x3 ∉ S) (q2 : ∀ x ∈ y2, Fld H' x) (q3 : ∀ x ∈ y3, Nm x) (q6 : y2 ≠ [] ∧ ∃ a b, g.l6 = [.str a, .str b] ∧ okB a = true ∧ okB b = true) (z2 : y2.length ≤ 100) (z3 : y3.length ≤ 100) :
    EnvAt S H' e { g with r2 := x2, l2 := y2, r3 := x3, l3 := y3 } k :=
  { at_ := hat, a0 := h.x _ _ G.n0 G.a0, a1 := h.x _ _ G.n1 G.a1, a2 := h2, a3 := h3, a4 := h.x _ _ G.n4 G.a4, a5 := h.x _ _ G.n5 G.a5, a6 := h.x _ _ G.n6 G.a6,
    n0 := G.n0, n1 := G.n1, n2 := n2, n3 := n3, n4 := G.n4, n5 := G.n5, n6 := G.n6,
    p0 := fun x m => (G.p0 x m).kp h, p1 := fun x m => (G.p1 x m).kp h, p2 := q2, p3 := q3, p4 := fun x m => (G.p4 x m).kp h, p5 := G.p5, p6 := fun _ => q6,
    z0 := G.z0, z1 := G.z1, z2 := z2, z3 := z3, z4 := G.z4, z5 := G.z5 }
theorem Kp.own {d e p : Addr} {H H1 H2 : Hp} (a : Kp [d, p] H H1) (b : Kp [d, e] H1 H2) (h : H e = none) : Kp [d, p] H H2 :=
  ⟨fun c o n x => b.x c o (by
    have n1 : c ≠ e := ne_of_none x h
    simp only [List.mem_cons, List.not_mem_nil, or_false, not_or] at n ⊢
    exact ⟨n.1, n1⟩) (a.x c o n x), fun c o x => b.t c o (a.t c o x)⟩
theorem ifs_post {t : TT} {t1 t2 : TS} {D : Ends} {σ : L2.St} {H : Hp} (Post : Hp → Prop) (h1 : ∀ H', Post H' → t1 D σ H') (h2 : ∀ H', Post H' → t2 D σ H') (hc : ∀ Q : Bool → Hp → Prop, (∀ b H', Post H' → Q b H') → t σ H Q) : tIfS t t1 t2 D σ H :=
  hc _ fun b H' p => by
    cases b
    · exact h2 H' p
    · exact h1 H' p
/-- where the drawing of a function stands -/
structure FSt (d c pl : Addr) (ps : List Str) (H : Hp) (ev ap C2 : Addr) (xs ys : List V) (r : V) (H' : Hp) (j : Nat) (qs : List Str) (g : EnvD) (k : Int) : Prop where
  P : Pl d c pl ps H H' j qs
  G : EnvAt [d, ev, pl] H' ev g k
  ne : g.l0 ≠ []
  hr : H' C2 = some (.lst ys)
  ha : H' ap = some (.tup xs)
  px : ∀ x ∈ xs, Row H' x
  py : ∀ x ∈ ys, Row H' x
  rc : RecAt H' r
theorem FSt.kp {d c pl : Addr} {ps qs : List Str} {H H1 H2 : Hp} {ev ap C2 : Addr} {xs ys : List V} {r : V} {j : Nat} {g : EnvD} {k : Int} (h : FSt d c pl ps H ev ap C2 xs ys r H1 j qs g k) (kk : Kp [d] H1 H2) (D : Drw H2 d c) (n : pl ≠ d) (ne : ev ≠ d) (nc : C2 ≠ d) : FSt d c pl ps H ev ap C2 xs ys r H2 j qs g k :=
  ⟨h.P.kp kk D n, h.G.kp kk (by simpa using ne) (by simp), h.ne, kk.x _ _ (by simpa using nc) h.hr, kk.t _ _ h.ha, fun x m => (h.px x m).kp kk, fun x m => (h.py x m).kp kk, h.rc.kp kk⟩
theorem FSt.same {d c pl : Addr} {ps qs : List Str} {H H1 H2 : Hp} {ev ap C2 : Addr} {xs ys : List V} {r : V} {j : Nat} {g : EnvD} {k : Int} (h : FSt d c pl ps H ev ap C2 xs ys r H1 j qs g k) (s : Same H1 H2) : FSt d c pl ps H ev ap C2 xs ys r H2 j qs g k :=
  ⟨h.P.same s, h.G.same s, h.ne, s _ _ h.hr, s _ _ h.ha, fun x m => (h.px x m).kp (.same (S := []) s), fun x m => (h.py x m).kp (.same (S := []) s), h.rc.kp (.same (S := []) s)⟩
theorem FSt.wk {d c pl : Addr} {ps qs : List Str} {H H1 : Hp} {ev ap C2 : Addr} {xs ys : List V} {r : V} {j j' : Nat} {g : EnvD} {k : Int} (h : FSt d c pl ps H ev ap C2 xs ys r H1 j qs g k) (hj : j ≤ j') : FSt d c pl ps H ev ap C2 xs ys r H1 j' qs g k := ⟨h.P.wk hj, h.G, h.ne, h.hr, h.ha, h.px, h.py, h.rc⟩
/-- the env alone changes -/
theorem FSt.env {d c pl : Addr} {ps qs : List Str} {H H1 H2 : Hp} {ev ap C2 : Addr} {xs ys : List V} {r : V} {j : Nat} {g g' : EnvD} {k k' : Int} (h : FSt d c pl ps H ev ap C2 xs ys r H1 j qs g k) (kk : Kp [d, ev] H1 H2) (kH : Kp [d, pl] H H2) (D : Drw H2 d c) (G : EnvAt [d, ev, pl] H2 ev g' k') (hl : g'.l0 ≠ [])
    (n : pl ≠ d) (ne : pl ≠ ev) (nc : C2 ≠ d) (nce : C2 ≠ ev) : FSt d c pl ps H ev ap C2 xs ys r H2 j qs g' k' :=
  ⟨⟨kH, D, h.P.at_.kp kk (by simp [n, ne]), h.P.len, h.P.le, h.P.sub⟩, G, hl, kk.x _ _ (by simp [nc, nce]) h.hr, kk.t _ _ h.ha, fun x m => (h.px x m).kp kk, fun x m => (h.py x m).kp kk, h.rc.kp kk⟩
/-- a name is taken -/
theorem FSt.pop {d c pl : Addr} {ps qs qs2 : List Str} {H H1 H2 : Hp} {ev ap C2 : Addr} {xs ys : List V} {r : V} {j j2 : Nat} {g : EnvD} {k : Int} (h : FSt d c pl ps H ev ap C2 xs ys r H1 j qs g k) (kk : Kp [d, pl] H1 H2) (P : Pl d c pl ps H H2 j2 qs2) (ne : ev ∉ [d, pl]) (nc : C2 ∉ [d, pl]) : FSt d c pl ps H ev ap C2 xs ys r H2 j2 qs2 g k :=
  ⟨P, h.G.kp kk ne (by simp), h.ne, kk.x _ _ nc h.hr, kk.t _ _ h.ha, fun x m => (h.px x m).kp kk, fun x m => (h.py x m).kp kk, h.rc.kp kk⟩
def spFunc : Sp := fun vs H Q _ => ∃ (d c pl ca : Addr) (ps : List Str) (en total shape : Int) (calls : List V) (r : V), vs = [.ref d, .ref pl, .int en, .int total, .ref ca, .int shape, r] ∧ Drw H d c ∧ pl ≠ d ∧ pl ≠ c ∧ PoolAt H pl ps ∧ 15 ≤ ps.length ∧ ps.length ≤ 1000 ∧
  1 ≤ total ∧ total ≤ 4 ∧ H ca = some (.lst calls) ∧ ca ≠ d ∧ ca ≠ pl ∧ calls.length ≤ 100 ∧ (∀ x ∈ calls, PartC H x) ∧ RecAt H r ∧
  ∀ H' p qs nm q gv lo bd rs bs, Pl d c pl ps H H' 12 qs → nm ∈ ps → nm ∉ qs → okB nm = true → H' p = some (.tup [.str "function", .str nm, .ref q, .int gv, .int en, .ref lo, .ref bd]) → H' q = some (.tup rs) → rs.length ≤ 100 → rs ≠ [] → (∀ r ∈ rs, Row H' r) →
    H' bd = some (.tup bs) → bs.length ≤ 100 → Tree 36 H' (.ref p) → Q (.ref p) H'
theorem ok_function {f : Addr} {fd : FuncData} (F : Fun K "_law_function" "_law_function" s__law_function f fd) (c__law_draw : Cal P w K mg base "_law_draw" 1 spDraw) (c__law_pick : Cal P w K mg base "_law_pick" 2 (spPick K)) (c__law_pop : Cal P w K mg base "_law_pop" 2 spPop)
    (c__law_expr : Cal P w K mg base "_law_expr" 10 (spExpr 3)) (c__law_loop : Cal P w K mg base "_law_loop" 4 spLoop) (c__law_block : Cal P w K mg base "_law_block" 19 (spBlock 3)) (T : Tx mg) :
    FnOk P w K mg base CX0 20 f fd ["_law_d", "_law_pool_here", "_law_entry", "_law_total", "_law_calls", "_law_shape", "_law_record"] spFunc := by
  refine F.ok sc__law_function (fun vs H Q E h => ?_) (fun cdv A outer s H vs Q E hr h => ?_)
  · obtain ⟨d, c, pl, ca, ps, en, total, shape, calls, r, rfl, _⟩ := h
    rfl
  · obtain ⟨d, c, pl, ca, ps, en, total, shape, calls, r, rfl, hD, npd, npc, hp, h5, h6, t1, t4, hca, ncd, ncp, hcl, hcs, hrec, q⟩ := h
    refine ⟨_, 
      (pss_cons (ps_set (i := 7) sc__law_function.nd rfl (Or.inl rfl) (Zn.pe_cal c__law_pick (hr.mono (by decide)) (by rfl) (pa_cons (pv 0) (pa_cons (pe_ix (r := rIxL K) ix_list (pe_lst (pa_cons (pe_lst (pa_cons (pe_lst (pa_cons pe_int pa_nil)) pa_nil)) (pa_cons (pe_lst (pa_cons (pe_lst (pa_cons pe_int pa_nil)) (pa_cons (pe_lst (pa_cons pe_int (pa_cons pe_int pa_nil))) pa_nil))) (pa_cons (pe_lst (pa_cons (pe_lst (pa_cons pe_int (pa_cons pe_int pa_nil))) (pa_cons (pe_lst (pa_cons pe_int (pa_cons pe_int pa_nil))) (pa_cons (pe_lst (pa_cons pe_int (pa_cons pe_int (pa_cons pe_int pa_nil)))) pa_nil)))) (pa_cons (pe_lst (pa_cons (pe_lst (pa_cons pe_int (pa_cons pe_int pa_nil))) (pa_cons (pe_lst (pa_cons pe_int (pa_cons pe_int (pa_cons pe_int pa_nil)))) pa_nil))) pa_nil))))) (pe_op op_sub (pv 3) pe_int) (fun _ _ => rfl)) pa_nil))))
      (pss_cons (ps_set (i := 8) sc__law_function.nd rfl (Or.inl rfl) (pe_callTy call_tuple_of (by rfl) T.z_tuple (by decide +kernel) (pa_cons (pe_lc (own := [("_law_width", 9)]) rfl sc__law_function.nd (pi_list (pv 7)) (blkOk_by (N := ["_law_d", "_law_pool_here", "_law_entry", "_law_total", "_law_calls", "_law_shape", "_law_record", "_law_widths", "_law_params", "_law_width", "_law_rows", "_law_k", "_law_env", "_law_first", "_law_name", "_law_gives", "_law_body", "_law_local"]) (sc := defScope s__law_function) (by decide +kernel)) (fun _ _ _ _ _ => (pg_name (i := 9) sc__law_function.nd rfl (Or.inl rfl))) (fun _ _ _ _ _ => pts_nil) (fun _ _ _ _ _ => (pe_tup (pa_cons (Zn.pe_cal c__law_pop (hr.mono (by decide)) (by rfl) (pa_cons (pv 0) (pa_cons (pv 1) pa_nil))) (pa_cons (pv 9) pa_nil))))) pa_nil)))
      (pss_cons (ps_setLc (own := [("_law_k", 11)]) (i := 10) rfl sc__law_function.nd rfl rfl (sw_true rfl rfl rfl (by decide +kernel)) (pi_range1 (by rfl) T.z_range (pa_cons (pe_op op_add pe_int (Zn.pe_cal c__law_draw (hr.mono (by decide)) (by rfl) (pa_cons (pv 0) (pa_cons pe_int pa_nil)))) pa_nil)) (blkOk_by (N := ["_law_d", "_law_pool_here", "_law_entry", "_law_total", "_law_calls", "_law_shape", "_law_record", "_law_widths", "_law_params", "_law_width", "_law_rows", "_law_k", "_law_env", "_law_first", "_law_name", "_law_gives", "_law_body", "_law_local"]) (sc := defScope s__law_function) (by decide +kernel)) (fun _ _ _ _ _ => (pg_name (i := 11) sc__law_function.nd rfl (Or.inl rfl))) (fun _ _ _ _ _ => pts_nil) (fun _ _ _ _ _ => (pe_tup (pa_cons (Zn.pe_cal c__law_pop (hr.mono (by decide)) (by rfl) (pa_cons (pv 0) (pa_cons (pv 1) pa_nil))) (pa_cons (pe_op op_add pe_int (Zn.pe_cal c__law_draw (hr.mono (by decide)) (by rfl) (pa_cons (pv 0) (pa_cons pe_int pa_nil)))) pa_nil)))))
      (pss_cons (ps_set (i := 12) sc__law_function.nd rfl (Or.inl rfl) (pe_lst (pa_cons (pe_op op_cat (pe_callTy call_list_of (by rfl) T.z_list (by decide +kernel) (pa_cons (pv 8) pa_nil)) (pv 10)) (pa_cons (pe_lst pa_nil) (pa_cons (pe_lst pa_nil) (pa_cons (pe_lst pa_nil) (pa_cons (pv 4) (pa_cons (pe_lst pa_nil) (pa_cons (pe_lst pa_nil) (pa_cons pe_int pa_nil))))))))))
      (pss_cons (ps_if (PW.pt (pw_or (pt_cmpR op_eq (pv 5) pe_int (nomark _)) (pw_or1 (pt_cmpR op_eq (Zn.pe_cal c__law_draw (hr.mono (by decide)) (by rfl) (pa_cons (pv 0) (pa_cons pe_int pa_nil))) pe_int (nomark _))))) 
       (pss_one (ps_asg (pe_lst (pa_cons (pe_tup (pa_cons (Zn.pe_cal c__law_pop (hr.mono (by decide)) (by rfl) (pa_cons (pv 0) (pa_cons (pv 1) pa_nil))) (pa_cons (pe_op op_add pe_int (Zn.pe_cal c__law_draw (hr.mono (by decide)) (by rfl) (pa_cons (pv 0) (pa_cons pe_int pa_nil)))) (pa_cons (pe_op op_add pe_int (Zn.pe_cal c__law_draw (hr.mono (by decide)) (by rfl) (pa_cons (pv 0) (pa_cons pe_int pa_nil)))) pa_nil)))) pa_nil)) (pg_sub (pv 12) pe_int set_list))) pss_nil)
      (pss_cons (ps_if (PW.pt (pw_or (pt_cmpR (r := rIn K false) op_in_seq (pv 5) (pe_tup (pa_cons pe_int (pa_cons pe_int (pa_cons pe_int pa_nil)))) (by rfl)) (pw_or1 (pt_cmpR op_eq (Zn.pe_cal c__law_draw (hr.mono (by decide)) (by rfl) (pa_cons (pv 0) (pa_cons pe_int pa_nil))) pe_int (nomark _))))) 
       (pss_one (ps_asg (pe_lst (pa_cons pe_str (pa_cons pe_str (pa_cons pe_str (pa_cons pe_str (pa_cons pe_str (pa_cons (Zn.pe_cal c__law_pop (hr.mono (by decide)) (by rfl) (pa_cons (pv 0) (pa_cons (pv 1) pa_nil))) pa_nil))))))) (pg_sub (pv 12) pe_int set_list))) pss_nil)
      (pss_cons (ps_set (i := 13) sc__law_function.nd rfl (Or.inl rfl) (pe_tup pa_nil))
      (pss_cons (ps_if (pt_cmpR op_notN (pv 6) pe_non (nomark _)) 
       (pss_cons (ps_asg (pe_lst (pa_cons (pe_ix (r := rIxT K) ix_tup (pv 6) pe_int (fun _ _ => rfl)) (pa_cons (pe_ix (r := rIxT K) ix_tup (pe_ix (r := rIxT K) ix_tup (pe_ix (r := rIxT K) ix_tup (pv 6) pe_int (fun _ _ => rfl)) pe_int (fun _ _ => rfl)) pe_int (fun _ _ => rfl)) pa_nil))) (pg_sub (pv 12) pe_int set_list))
       (pss_cons (ps_asg (pe_lst (pa_cons (Zn.pe_cal c__law_pop (hr.mono (by decide)) (by rfl) (pa_cons (pv 0) (pa_cons (pv 1) pa_nil))) (pa_cons (Zn.pe_cal c__law_pop (hr.mono (by decide)) (by rfl) (pa_cons (pv 0) (pa_cons (pv 1) pa_nil))) pa_nil))) (pg_sub (pv 12) pe_int set_list))
       (pss_cons (ps_asg (pe_lc (own := [("_law_name", 14)]) rfl sc__law_function.nd (pi_list (pe_ix (r := rIxL K) ix_list (pv 12) pe_int (fun _ _ => rfl))) (blkOk_by (N := ["_law_d", "_law_pool_here", "_law_entry", "_law_total", "_law_calls", "_law_shape", "_law_record", "_law_widths", "_law_params", "_law_width", "_law_rows", "_law_k", "_law_env", "_law_first", "_law_name", "_law_gives", "_law_body", "_law_local"]) (sc := defScope s__law_function) (by decide +kernel)) (fun _ _ _ _ _ => (pg_name (i := 14) sc__law_function.nd rfl (Or.inl rfl))) (fun _ _ _ _ _ => pts_nil) (fun _ _ _ _ _ => (pe_tup (pa_cons (pv 14) (pa_cons (pe_ix (r := rIxT K) ix_tup (pe_ix (r := rIxT K) ix_tup (pe_ix (r := rIxT K) ix_tup (pv 6) pe_int (fun _ _ => rfl)) pe_int (fun _ _ => rfl)) pe_int (fun _ _ => rfl)) (pa_cons (pe_ix (r := rIxT K) ix_tup (pe_ix (r := rIxT K) ix_tup (pe_ix (r := rIxT K) ix_tup (pv 6) pe_int (fun _ _ => rfl)) pe_int (fun _ _ => rfl)) pe_int (fun _ _ => rfl)) pa_nil)))))) (pg_sub (pv 12) pe_int set_list))
       (pss_one (ps_set (i := 13) sc__law_function.nd rfl (Or.inl rfl) (pe_ifExp (pt_truth (Zn.pe_cal c__law_draw (hr.mono (by decide)) (by rfl) (pa_cons (pv 0) (pa_cons pe_int pa_nil))) (by intro _; rfl)) (pe_tup (pa_cons (pe_tup (pa_cons pe_str (pa_cons (pe_ix (r := rIxL K) ix_list (pe_ix (r := rIxL K) ix_list (pv 12) pe_int (fun _ _ => rfl)) pe_int (fun _ _ => rfl)) (pa_cons (pe_ix (r := rIxT K) ix_tup (pv 6) pe_int (fun _ _ => rfl)) pa_nil)))) pa_nil)) (pe_tup pa_nil))))))) pss_nil)
      (pss_cons (ps_if (pt_cmpR op_eq (pv 5) pe_int (nomark _)) 
       (pss_one (ps_set (i := 13) sc__law_function.nd rfl (Or.inl rfl) (pe_tup (pa_cons (Zn.pe_cal c__law_loop (hr.mono (by decide)) (by rfl) (pa_cons (pv 0) (pa_cons (pv 12) (pa_cons (pe_ix (r := rIxL K) ix_list (pv 10) pe_int (fun _ _ => rfl)) (pa_cons (Zn.pe_cal c__law_block (hr.mono (by decide)) (by rfl) (pa_cons (pv 0) (pa_cons (pv 12) (pa_cons pe_int (pa_cons (Zn.pe_cal c__law_draw (hr.mono (by decide)) (by rfl) (pa_cons (pv 0) (pa_cons pe_int pa_nil))) pa_nil))))) pa_nil))))) pa_nil)))) pss_nil)
      (pss_cons (ps_set (i := 15) sc__law_function.nd rfl (Or.inl rfl) (pe_op op_add pe_int (Zn.pe_cal c__law_draw (hr.mono (by decide)) (by rfl) (pa_cons (pv 0) (pa_cons pe_int pa_nil)))))
      (pss_cons (ps_set (i := 16) sc__law_function.nd rfl (Or.inl rfl) (pe_op (r := rCatA K) op_catA (pv 13) (Zn.pe_cal c__law_block (hr.mono (by decide)) (by rfl) (pa_cons (pv 0) (pa_cons (pv 12) (pa_cons (pe_op op_add pe_int (Zn.pe_cal c__law_draw (hr.mono (by decide)) (by rfl) (pa_cons (pv 0) (pa_cons pe_int pa_nil)))) (pa_cons (pe_op op_add pe_int (Zn.pe_cal c__law_draw (hr.mono (by decide)) (by rfl) (pa_cons (pv 0) (pa_cons pe_int pa_nil)))) pa_nil)))))))
      (pss_cons (ps_if (pt_truth (Zn.pe_cal c__law_draw (hr.mono (by decide)) (by rfl) (pa_cons (pv 0) (pa_cons pe_int pa_nil))) (by intro _; rfl)) 
       (pss_one (ps_set (i := 16) sc__law_function.nd rfl (Or.inl rfl) (pe_op (r := rCatA K) op_catA (pv 16) (pe_tup (pa_cons (pe_tup (pa_cons pe_str (pa_cons (Zn.pe_cal c__law_expr (hr.mono (by decide)) (by rfl) (pa_cons (pv 0) (pa_cons (pv 12) (pa_cons (pv 15) (pa_cons pe_int pa_nil))))) pa_nil))) pa_nil))))) pss_nil)
      (pss_cons (ps_set (i := 17) sc__law_function.nd rfl (Or.inl rfl) (pe_callTy call_tuple_of (by rfl) T.z_tuple (by decide +kernel) (pa_cons (pe_op op_cat (pe_op op_cat (pv 10) (pe_ix (r := rIxL K) ix_list (pv 12) pe_int (fun _ _ => rfl))) (pe_lc (own := [("_law_name", 14)]) rfl sc__law_function.nd (pi_list (pe_ix (r := rIxL K) ix_list (pv 12) pe_int (fun _ _ => rfl))) (blkOk_by (N := ["_law_d", "_law_pool_here", "_law_entry", "_law_total", "_law_calls", "_law_shape", "_law_record", "_law_widths", "_law_params", "_law_width", "_law_rows", "_law_k", "_law_env", "_law_first", "_law_name", "_law_gives", "_law_body", "_law_local"]) (sc := defScope s__law_function) (by decide +kernel)) (fun _ _ _ _ _ => (pg_name (i := 14) sc__law_function.nd rfl (Or.inl rfl))) (fun _ _ _ _ _ => pts_nil) (fun _ _ _ _ _ => (pe_tup (pa_cons (pv 14) (pa_cons (pe_ix (r := rIxT K) ix_tup (pv 6) pe_int (fun _ _ => rfl)) pa_nil)))))) pa_nil)))
      (pss_one (ps_ret (pe_tup (pa_cons pe_str (pa_cons (Zn.pe_cal c__law_pop (hr.mono (by decide)) (by rfl) (pa_cons (pv 0) (pa_cons (pv 1) pa_nil))) (pa_cons (pv 8) (pa_cons (pv 15) (pa_cons (pv 2) (pa_cons (pv 17) (pa_cons (pv 16) pa_nil))))))))))))))))))))))), ?_⟩
    have dd : d ∈ [d] := by simp
    have up : ∀ {H1 H2 : Hp}, Kp [d] H1 H2 → Kp [d, pl] H1 H2 := fun k => k.mono (by simp)
    have npl : pl ∉ [d] := by simpa using npd
    have CD : ∀ H4 (m : Int) Q', Drw H4 d c → 1 ≤ m → m < 1000 → (∀ i H5, 0 ≤ i → i < m → Kp [d] H4 H5 → Drw H5 d c → Q' (.int i) H5) → spDraw [.ref d, .int m] H4 Q' E0 := fun H4 m Q' D4 m1 m2 q' =>
      ⟨d, c, m, rfl, D4, m1, by omega, fun i zs i0 i1 D5 => q' i _ i0 i1 (.drw D4 dd) D5⟩
    have CP : ∀ H4 a xs Q', Drw H4 d c → a ≠ d → H4 a = some (.lst xs) → xs ≠ [] → xs.length ≤ 1000 → (∀ x ∈ xs, ∀ H5, Kp [d] H4 H5 → Drw H5 d c → Q' x H5) → spPick K [.ref d, .ref a] H4 Q' E0 := fun H4 a xs Q' D4 na ha hne hl q' =>
      ⟨d, c, a, xs, rfl, D4, na, sl_of ha, hne, hl, fun x zs' hx D5 => q' x hx _ (.drw D4 dd) D5⟩
    have nd : ∀ {a : Addr}, H a = none → a ≠ d := fun h => (hD.nd h).symm
    have np : ∀ {a : Addr}, H a = none → a ≠ pl := fun h => (ne_of_none hp.at_ h).symm
    refine seq_nx (fun σ H' => ∃ (wl : Addr) (ws : List Int), σ = [some (.ref d), some (.ref pl), some (.int en), some (.int total), some (.ref ca), some (.int shape), some r, some (.ref wl), none, none, none, none, none, none, none, none, none, none] ∧
      Kp [d] H H' ∧ Drw H' d c ∧ H' wl = some (.lst (ws.map V.int)) ∧ wl ≠ d ∧ wl ≠ pl ∧ 1 ≤ ws.length ∧ ws.length ≤ 3 ∧ ∀ x ∈ ws, 1 ≤ x ∧ x ≤ 2) ?_ (fun nx' hx => ?_)
    rotate_left
    · have fin : ∀ Hf H1 b (ns : List Int), Same H Hf → Kp [d] Hf H1 → Drw H1 d c → Hf b = some (.lst (ns.map V.int)) → H b = none → 1 ≤ ns.length ∧ ns.length ≤ 3 ∧ (∀ x ∈ ns, 1 ≤ x ∧ x ≤ 2) →
          nx' [some (.ref d), some (.ref pl), some (.int en), some (.int total), some (.ref ca), some (.int shape), some r, some (.ref b), none, none, none, none, none, none, none, none, none, none] H1 := fun Hf H1 b ns sf k1 D1 hb h0 hn =>
        hx _ _ ⟨b, ns, rfl, (Kp.same sf).trans k1, D1, k1.x _ _ (by simpa using nd h0) hb, nd h0, np h0, hn.1, hn.2.1, hn.2.2⟩
      have : total = 1 ∨ total = 2 ∨ total = 3 ∨ total = 4 := by omega
      rcases this with rfl | rfl | rfl | rfl
      all_goals
        walk_at "rs"
        rename_i a1 e1 a2 e2 a3 e3 a4 e4 a5 e5 a6 e6 a7 e7 a8 e8 a9 e9 a10 e10 a11 e11 a12 e12 a13 e13
        have f1 := Same.free (H := H) (by walk_at "sm") e1
        have f2 := Same.free (H := H) (by walk_at "sm") e2
        have f3 := Same.free (H := H) (by walk_at "sm") e3
        have f4 := Same.free (H := H) (by walk_at "sm") e4
        have f5 := Same.free (H := H) (by walk_at "sm") e5
        have f6 := Same.free (H := H) (by walk_at "sm") e6
        have f7 := Same.free (H := H) (by walk_at "sm") e7
        have f8 := Same.free (H := H) (by walk_at "sm") e8
        have f9 := Same.free (H := H) (by walk_at "sm") e9
        have f10 := Same.free (H := H) (by walk_at "sm") e10
        have f11 := Same.free (H := H) (by walk_at "sm") e11
        have f12 := Same.free (H := H) (by walk_at "sm") e12
      · refine CP _ a2 [.ref a1] _ (hD.same (by walk_at "sm")) (nd f2) (by walk_at "fd") (by simp) (by simp) fun x hxm H1 k1 D1 => ?_
        simp only [List.mem_cons, List.not_mem_nil, or_false] at hxm
        subst hxm
        exact fin _ H1 a1 [1] (by walk_at "sm") k1 D1 (by walk_at "fd") f1 (by decide)
      · refine CP _ a5 [.ref a3, .ref a4] _ (hD.same (by walk_at "sm")) (nd f5) (by walk_at "fd") (by simp) (by simp) fun x hxm H1 k1 D1 => ?_
        simp only [List.mem_cons, List.not_mem_nil, or_false] at hxm
        rcases hxm with rfl | rfl
        · exact fin _ H1 a3 [2] (by walk_at "sm") k1 D1 (by walk_at "fd") f3 (by decide)
        · exact fin _ H1 a4 [1, 1] (by walk_at "sm") k1 D1 (by walk_at "fd") f4 (by decide)
      · refine CP _ a9 [.ref a6, .ref a7, .ref a8] _ (hD.same (by walk_at "sm")) (nd f9) (by walk_at "fd") (by simp) (by simp) fun x hxm H1 k1 D1 => ?_
        simp only [List.mem_cons, List.not_mem_nil, or_false] at hxm
        rcases hxm with rfl | rfl | rfl
        · exact fin _ H1 a6 [1, 2] (by walk_at "sm") k1 D1 (by walk_at "fd") f6 (by decide)
        · exact fin _ H1 a7 [2, 1] (by walk_at "sm") k1 D1 (by walk_at "fd") f7 (by decide)
        · exact fin _ H1 a8 [1, 1, 1] (by walk_at "sm") k1 D1 (by walk_at "fd") f8 (by decide)
      · refine CP _ a12 [.ref a10, .ref a11] _ (hD.same (by walk_at "sm")) (nd f12) (by walk_at "fd") (by simp) (by simp) fun x hxm H1 k1 D1 => ?_
        simp only [List.mem_cons, List.not_mem_nil, or_false] at hxm
        rcases hxm with rfl | rfl
        · exact fin _ H1 a10 [2, 2] (by walk_at "sm") k1 D1 (by walk_at "fd") f10 (by decide)
        · exact fin _ H1 a11 [2, 1, 1] (by walk_at "sm") k1 D1 (by walk_at "fd") f11 (by decide)
    rintro σ H1 ⟨wl, ws, rfl, k1, D1, hwl, nwd, nwp, w1, w3, hws⟩
    have P1 : Pl d c pl ps H H1 0 ps := ⟨up k1, D1, hp.kp k1 npl, by omega, by omega, fun x h => h⟩
    -- the parameters
    walk_at "rs"
    refine r_ref ⟨_, sl_of hwl⟩ fun C hC => ?_
    have nCd : C ≠ d := (D1.nd hC).symm
    have nCp : C ≠ pl := (ne_of_none P1.at_.at_ hC).symm
    have hCH : H C = none := k1.free (by simpa using nCd) hC
    have wlS : wl ∉ [d, pl] := by simp [nwd, nwp]
    have CS : C ∉ [d, pl] := by simp [nCd, nCp]
    refine lc_list (K := K) (a := wl) (xs := ws.map V.int) (fun i H' => ∃ xs qs, Kp [d, pl] H1 H' ∧ Pl d c pl ps H H' i qs ∧ H' C = some (.lst xs) ∧ xs.length = i ∧ ∀ x ∈ xs, Row H' x)
      ⟨[], ps, (Kp.refl _ _).new hC, P1.same (same_new hC), upd_same, rfl, all_nil⟩ (fun i H' _ ⟨_, _, kk, _⟩ => sl_of (kk.x _ _ wlS hwl)) (fun i x H' hi ⟨xs, qs, k2, P2, hc, hl, hx⟩ => ?_) (fun H2 ⟨xs, qs, k2, P2, hc, hl, hx⟩ => ?_)
    · obtain ⟨u, rfl, hu⟩ := map_get hi
      have hu1 := hws u (List.mem_of_getElem? hu)
      have hi2 := (List.getElem?_eq_some_iff.mp hu).1
      walk_at "rs"
      refine ⟨rfl, ?_⟩
      walk_at "rs"
      refine P2.pop npd npc h6 (by omega) fun H3 s3 qs3 k3 P3 ok3 m3 nm3 => ?_
      have hc3 := k3.x _ _ CS hc
      walk_at "rs"
      rename_i t ht
      have s5 := same_new (o := .tup [.str s3, .int u]) ht
      have hc5 := s5 _ _ hc3
      have kC : Kp [C] (upd H3 t (.tup [.str s3, .int u])) (upd (upd H3 t (.tup [.str s3, .int u])) C (.lst (xs ++ [.ref t]))) := (Kp.refl _ _).set (by simp) hc5
      have k35 := k3.trans (Kp.same (S := [d, pl]) s5)
      exact ⟨xs, hc5, Nat.lt_of_lt_of_le (show xs.length < 1000 by omega) (by decide), xs ++ [.ref t], qs3, (k2.trans k35).mut hC hc5, (P3.same s5).mut hCH hc5 nCd nCp (D1.nc hC), upd_same, by simp [hl], mem_app (fun x m => ((hx x m).kp k35).kp kC) (all_cons (show Row _ (.ref t) from ⟨t, s3, u, rfl, kC.t _ _ upd_same, ok3, hu1.1, by omega⟩) all_nil)⟩
    rw [List.length_map] at P2 hl
    walk_at "rs"
    refine ⟨C, _, rfl, .inl ⟨sl_of hc, fun ap hap => ?_⟩⟩
    have sap := same_new (o := .tup xs) hap
    have hx' : ∀ x ∈ xs, Row (upd H2 ap (.tup xs)) x := fun x m => (hx x m).kp (.same (S := []) sap)
    have P3 := (P2.same sap).wk (show ws.length ≤ 3 from w3)
    have hxl : xs.length ≤ 3 := by omega
    have hxne : xs ≠ [] := fun e => by rw [e] at hl; simp at hl; omega
    have hapt : upd H2 ap (.tup xs) ap = some (.tup xs) := upd_same
    generalize upd H2 ap (.tup xs) = H3 at *
    clear hx hc P2 k2 sap hap hwl hCH
    -- the rows
    walk_at "rs"
    refine CD _ _ _ P3.D (by decide) (by decide) fun m H4 m0 m1 k4 D4 => ?_
    walk_at "rs"
    intro C2 hC2
    have P4 := P3.kp k4 D4 npd
    have nCd2 : C2 ≠ d := (D4.nd hC2).symm
    have nCp2 : C2 ≠ pl := (ne_of_none P4.at_.at_ hC2).symm
    have CS2 : C2 ∉ [d, pl] := by simp [nCd2, nCp2]
    have hC2H : H C2 = none := P4.k.free CS2 hC2
    refine lc_range (fun i H' => ∃ ys qs, Kp [d, pl] H4 H' ∧ Pl d c pl ps H H' (3 + i) qs ∧ H' C2 = some (.lst ys) ∧ ys.length = i ∧ ∀ x ∈ ys, Row H' x)
      ⟨[], _, (Kp.refl _ _).new hC2, P4.same (same_new hC2), upd_same, rfl, all_nil⟩ (fun i H' hi ⟨ys, qs, k2, P2, hc, hl, hx⟩ => ?_) (fun H5 ⟨ys, qs5, k5, P5, hc, hyl, hy⟩ => ?_)
    · have hi : i < 2 := by
        have : i < (1 + m).toNat := hi
        omega
      walk_at "rs"
      refine ⟨rfl, ?_⟩
      walk_at "rs"
      refine P2.pop npd npc h6 (by omega) fun H3 s3 qs3 k3 P3 ok3 m3 nm3 => ?_
      walk_at "rs"
      refine CD _ _ _ P3.D (by decide) (by decide) fun u H6 u0 u1 k6 D6 => ?_
      have P6 := P3.kp k6 D6 npd
      have k36 := k3.trans (up k6)
      have hc6 := k36.x _ _ CS2 hc
      walk_at "rs"
      rename_i t ht
      have s5 := same_new (o := .tup [.str s3, .int (1 + u)]) ht
      have hc5 := s5 _ _ hc6
      have kC : Kp [C2] (upd H6 t (.tup [.str s3, .int (1 + u)])) (upd (upd H6 t (.tup [.str s3, .int (1 + u)])) C2 (.lst (ys ++ [.ref t]))) := (Kp.refl _ _).set (by simp) hc5
      have k35 := k36.trans (Kp.same (S := [d, pl]) s5)
      exact ⟨ys, hc5, Nat.lt_of_lt_of_le (show ys.length < 1000 by omega) (by decide), ys ++ [.ref t], qs3, (k2.trans k35).mut hC2 hc5, (P6.same s5).mut hC2H hc5 nCd2 nCp2 (D4.nc hC2), upd_same, by simp [hl], mem_app (fun x m => ((hx x m).kp k35).kp kC) (all_cons (show Row _ (.ref t) from ⟨t, s3, 1 + u, rfl, kC.t _ _ upd_same, ok3, by omega, by omega⟩) all_nil)⟩
    have P5 := P5.wk (show 3 + (1 + m).toNat ≤ 5 by omega)
    have k45 := (up k4).trans k5
    have hap5 := k45.t _ _ hapt
    have hx5 : ∀ x ∈ xs, Row H5 x := fun x m => (hx' x m).kp k45
    have hyl2 : ys.length ≤ 2 := by omega
    have hyne : ys ≠ [] := fun e => by rw [e] at hyl; simp at hyl; omega
    -- what is drawn from
    walk_at "rt"
    have hca5 := k45.x _ _ (by simp [ncd, ncp]) ((P3.k).x _ _ (by simp [ncd, ncp]) hca)
    have K5 := P5.k
    refine seq_nx (fun σ H' => ∃ (ev : Addr) (g : EnvD), σ = [some (.ref d), some (.ref pl), some (.int en), some (.int total), some (.ref ca), some (.int shape), some r, some (.ref wl), some (.ref ap), none, some (.ref C2), none, some (.ref ev), none, none, none, none, none] ∧
      FSt d c pl ps H ev ap C2 xs ys r H' 5 qs5 g 6 ∧ g.l3 = [] ∧ ev ≠ d ∧ ev ≠ c ∧ ev ≠ pl ∧ C2 ≠ ev ∧ H ev = none) ?_ (fun nx' hx => ?_)
    rotate_left
    · walk_at "rs"
      intro l hl
      walk_at "rs"
      have hc6 := same_new (o := .lst xs) hl _ _ hc
      refine r_cat upd_same hc6 (len_ok (by omega)) fun l0 hl0 => ?_
      walk_at "rs"
      rename_i a1 e1 a2 e2 a3 e3 a5 e5 a6 e6 ev ee
      have b5 := P5.D
      have f0 := Same.free (H := H5) (by walk_at "sm") hl0
      have f1 := Same.free (H := H5) (by walk_at "sm") e1
      have f2 := Same.free (H := H5) (by walk_at "sm") e2
      have f3 := Same.free (H := H5) (by walk_at "sm") e3
      have f5 := Same.free (H := H5) (by walk_at "sm") e5
      have f6 := Same.free (H := H5) (by walk_at "sm") e6
      have fe := Same.free (H := H5) (by walk_at "sm") ee
      have nd5 : ∀ {a : Addr}, H5 a = none → a ≠ d := fun h => (b5.nd h).symm
      have np5 : ∀ {a : Addr}, H5 a = none → a ≠ pl := fun h => (ne_of_none P5.at_.at_ h).symm
      have v0 : l0 ≠ ev := ne_of_none (o := .lst (xs ++ ys)) (by walk_at "fd") ee
      have v1 : a1 ≠ ev := ne_of_none (o := .lst []) (by walk_at "fd") ee
      have v2 : a2 ≠ ev := ne_of_none (o := .lst []) (by walk_at "fd") ee
      have v3 : a3 ≠ ev := ne_of_none (o := .lst []) (by walk_at "fd") ee
      have v4 : ca ≠ ev := ne_of_none (o := .lst calls) hca5 fe
      have v5 : a5 ≠ ev := ne_of_none (o := .lst []) (by walk_at "fd") ee
      have v6 : a6 ≠ ev := ne_of_none (o := .lst []) (by walk_at "fd") ee
      refine hx _ _ ⟨ev, ⟨l0, a1, a2, a3, ca, a5, a6, xs ++ ys, [], [], [], calls, [], []⟩, rfl, ⟨P5.same (by walk_at "sm"), ?_, by simp [hxne], by walk_at "fd", by walk_at "fd", fun x m => (hx5 x m).kp (.same (S := []) (by walk_at "sm")), fun x m => (hy x m).kp (.same (S := []) (by walk_at "sm")), (hrec.kp K5).kp (.same (S := []) (by walk_at "sm"))⟩, rfl, nd5 fe, (b5.nc fe).symm, np5 fe, ne_of_none hc fe, K5.free (by simp [nd5 fe, np5 fe]) fe⟩
      refine EnvAt.new upd_same (by walk_at "fd") (by walk_at "fd") (by walk_at "fd") (by walk_at "fd") (by walk_at "fd") (by walk_at "fd") (by walk_at "fd") (not3 (nd5 f0) v0 (np5 f0)) (not3 (nd5 f1) v1 (np5 f1)) (not3 (nd5 f2) v2 (np5 f2)) (not3 (nd5 f3) v3 (np5 f3)) (not3 ncd v4 ncp) (not3 (nd5 f5) v5 (np5 f5)) (not3 (nd5 f6) v6 (np5 f6))
        (mem_app (fun x m => (hx5 x m).kp (.same (S := []) (by walk_at "sm"))) (fun x m => (hy x m).kp (.same (S := []) (by walk_at "sm")))) (fun x m => ((hcs x m).kp K5).kp (.same (S := []) (by walk_at "sm"))) (by rw [List.length_append]; omega) hcl
    rintro σ H6 ⟨ev, g, rfl, F6, hl3, ned, nec, nep, nCe, hev⟩
    clear hx5 hy hap5 hca5 K5 k45 k5 k4 hx' hapt P3 P4 P5 hc hC2H
    have evS : ev ∉ [d, pl] := by simp [ned, nep]
    have evD : ev ∈ [d, ev, pl] := by simp
    -- an array
    refine seq_nx (fun σ H' => ∃ g qs, σ = [some (.ref d), some (.ref pl), some (.int en), some (.int total), some (.ref ca), some (.int shape), some r, some (.ref wl), some (.ref ap), none, some (.ref C2), none, some (.ref ev), none, none, none, none, none] ∧ FSt d c pl ps H ev ap C2 xs ys r H' 6 qs g 6 ∧ g.l3 = []) ?_ (fun nx' hx => ?_)
    rotate_left
    · refine ifs_post (fun H' => Kp [d] H6 H' ∧ Drw H' d c) (fun H7 ⟨k7, D7⟩ => ?_) (fun H7 ⟨k7, D7⟩ => ?_) (fun Q' hQ => ?_)
      · have F7 := F6.kp k7 D7 npd ned nCd2
        walk_at "rs"
        refine F7.P.pop npd npc h6 (by omega) fun H8 s8 qs8 k8 P8 ok8 m8 nm8 => ?_
        have F8 := F7.pop k8 P8 evS CS2
        walk_at "rs"
        refine CD _ _ _ P8.D (by decide) (by decide) fun u H9 u0 u1 k9 D9 => ?_
        have F9 := F8.kp k9 D9 npd ned nCd2
        walk_at "rs"
        refine CD _ _ _ D9 (by decide) (by decide) fun v H10 v0 v1 k10 D10 => ?_
        have F10 := F9.kp k10 D10 npd ned nCd2
        have hat := F10.G.at_
        walk_at "rs"
        rename_i t ht a ha2
        have s2 := (same_new (o := .tup [.str s8, .int (1 + u), .int (1 + v)]) ht).trans (same_new (o := .lst [.ref t]) ha2)
        have F11 := F10.same s2
        have Dt := D10.same (same_new (o := .tup [.str s8, .int (1 + u), .int (1 + v)]) ht)
        have hna : a ∉ [d, ev, pl] := not3 (Dt.nd ha2).symm (ne_of_none (same_new ht _ _ hat) ha2).symm (ne_of_none (same_new ht _ _ F10.P.at_.at_) ha2).symm
        have G12 := F11.G.put1 evD (l := [.ref t]) upd_same hna (all_cons (show Item _ (.ref t) from ⟨t, s8, 1 + u, 1 + v, rfl, same_new ha2 _ _ upd_same, ok8, by omega, by omega⟩) all_nil) (by simp)
        exact hx _ _ ⟨_, qs8, rfl, F11.env ((Kp.refl _ _).set (by simp) F11.G.at_) (F11.P.k.mut hev F11.G.at_) (F11.P.D.upd ned.symm nec.symm) G12 F11.ne npd nep.symm nCd2 nCe, hl3⟩
      · walk_at "rs"
        exact hx _ _ ⟨g, _, rfl, (F6.kp k7 D7 npd ned nCd2).wk (by omega), hl3⟩
      · walk_at "rs"
        refine ite2 (fun h => ?_) (fun h => ?_)
        · exact hQ _ _ ⟨.refl _ _, F6.P.D⟩
        · walk_at "rs"
          refine CD _ _ _ F6.P.D (by decide) (by decide) fun u H9 u0 u1 k9 D9 => ?_
          walk_at "rs"
          exact hQ _ _ ⟨k9, D9⟩
    clear F6 hl3
    rintro σ H6 ⟨g, qs6, rfl, F6, hl3⟩
    -- names to raise
    refine seq_nx (fun σ H' => ∃ g qs, σ = [some (.ref d), some (.ref pl), some (.int en), some (.int total), some (.ref ca), some (.int shape), some r, some (.ref wl), some (.ref ap), none, some (.ref C2), none, some (.ref ev), none, none, none, none, none] ∧ FSt d c pl ps H ev ap C2 xs ys r H' 7 qs g 6 ∧ g.l3 = []) ?_ (fun nx' hx => ?_)
    rotate_left
    · refine ifs_post (fun H' => Kp [d] H6 H' ∧ Drw H' d c) (fun H7 ⟨k7, D7⟩ => ?_) (fun H7 ⟨k7, D7⟩ => ?_) (fun Q' hQ => ?_)
      · have F7 := F6.kp k7 D7 npd ned nCd2
        walk_at "rs"
        refine F7.P.pop npd npc h6 (by omega) fun H8 s8 qs8 k8 P8 ok8 m8 nm8 => ?_
        have F8 := F7.pop k8 P8 evS CS2
        have hat := F8.G.at_
        walk_at "rs"
        rename_i a ha2
        have s2 := same_new (o := .lst [.str "index", .str "zero", .str "claim", .str "duty", .str "nothing", .str s8]) ha2
        have F11 := F8.same s2
        have hna : a ∉ [d, ev, pl] := not3 (P8.D.nd ha2).symm (ne_of_none hat ha2).symm (ne_of_none P8.at_.at_ ha2).symm
        have G12 := F11.G.put5 evD (l := [.str "index", .str "zero", .str "claim", .str "duty", .str "nothing", .str s8]) upd_same hna (nm_of ["index", "zero", "claim", "duty", "nothing", s8] (by simp [ok8, show okB "index" = true by decide +kernel, show okB "zero" = true by decide +kernel, show okB "claim" = true by decide +kernel, show okB "duty" = true by decide +kernel, show okB "nothing" = true by decide +kernel])) (by simp)
        exact hx _ _ ⟨_, qs8, rfl, F11.env ((Kp.refl _ _).set (by simp) F11.G.at_) (F11.P.k.mut hev F11.G.at_) (F11.P.D.upd ned.symm nec.symm) G12 F11.ne npd nep.symm nCd2 nCe, hl3⟩
      · walk_at "rs"
        exact hx _ _ ⟨g, _, rfl, (F6.kp k7 D7 npd ned nCd2).wk (by omega), hl3⟩
      · walk_at "rs"
        rename_i p hp9
        have s9 := same_new (o := .tup [.int 2, .int 3, .int 5]) hp9
        refine ite2 (fun h => ?_) (fun h => ?_)
        · exact hQ _ _ ⟨.same s9, F6.P.D.same s9⟩
        · walk_at "rs"
          refine CD _ _ _ (F6.P.D.same s9) (by decide) (by decide) fun u H9 u0 u1 k9 D9 => ?_
          walk_at "rs"
          exact hQ _ _ ⟨(Kp.same s9).trans k9, D9⟩
    clear F6 hl3
    rintro σ H6 ⟨g, qs6, rfl, F6, hl3⟩
    (walk_at "rs1")
    walk_at "rt"
    rename_i fp hfp
    have F7 := F6.same (same_new (o := .tup []) hfp)
    have hfp7 : upd H6 fp (.tup []) fp = some (.tup []) := upd_same
    generalize upd H6 fp (.tup []) = H7 at *
    clear F6 hfp
    -- a record
    refine seq_nx (fun σ H' => ∃ g qs fp fs, σ = [some (.ref d), some (.ref pl), some (.int en), some (.int total), some (.ref ca), some (.int shape), some r, some (.ref wl), some (.ref ap), none, some (.ref C2), none, some (.ref ev), some (.ref fp), none, none, none, none] ∧ FSt d c pl ps H ev ap C2 xs ys r H' 9 qs g 6 ∧ (r = .non → g.l3 = []) ∧
      H' fp = some (.tup fs) ∧ fs.length ≤ 1 ∧ ∀ x ∈ fs, Tree 30 H' x) ?_ (fun nx' hx => ?_)
    rotate_left
    · rcases F7.rc with hr | ⟨rp, rn, fs, g1, g2, fn1, fw, fn2, hr, hrp, hfs, hg1, hg2, okr, okf1, okf2, fw1, fw8⟩
      · subst hr
        walk_at "rs"
        refine ⟨rfl, ?_⟩
        walk_at "rs"
        exact hx _ _ ⟨g, _, fp, [], rfl, F7.wk (by omega), fun _ => hl3, hfp7, by simp, all_nil⟩
      · subst hr
        have hat := F7.G.at_
        walk_at "rs"
        refine ⟨rfl, ?_⟩
        walk_at "rs"
        rename_i a6 e6
        have s6 := same_new (o := .lst [.str rn, .str fn2]) e6
        have F8 := F7.same s6
        have hna6 : a6 ∉ [d, ev, pl] := not3 (F7.P.D.nd e6).symm (ne_of_none hat e6).symm (ne_of_none F7.P.at_.at_ e6).symm
        have G8 := F8.G.put6 evD (l := [.str rn, .str fn2]) upd_same hna6 hl3
        have F9 := F8.env ((Kp.refl _ _).set (by simp) F8.G.at_) (F8.P.k.mut hev F8.G.at_) (F8.P.D.upd ned.symm nec.symm) G8 F8.ne npd nep.symm nCd2 nCe
        have k79 : Kp [d, ev] H7 _ := (Kp.same s6).set (o := .lst [.ref g.r0, .ref g.r1, .ref g.r2, .ref g.r3, .ref g.r4, .ref g.r5, .ref a6, .int 6]) (by simp) F8.G.at_
        refine F9.P.pop npd npc h6 (by omega) fun H10 s10 qs10 k10 P10 ok10 m10 nm10 => ?_
        have F10 := F9.pop k10 P10 evS CS2
        walk_at "rs"
        refine F10.P.pop npd npc h6 (by omega) fun H11 s11 qs11 k11 P11 ok11 m11 nm11 => ?_
        have F11 := F10.pop k11 P11 evS CS2
        have hat11 := F11.G.at_
        have up3 : ∀ {b xs}, H7 b = some (.tup xs) → H11 b = some (.tup xs) := fun h => k11.t _ _ (k10.t _ _ (k79.t _ _ h))
        walk_at "rs"
        rename_i a3 e3
        have n3e : a3 ≠ ev := (ne_of_none hat11 e3).symm
        have hna3 : a3 ∉ [d, ev, pl] := not3 (P11.D.nd e3).symm n3e (ne_of_none P11.at_.at_ e3).symm
        have k12 : Kp [d, ev] H11 _ := (Kp.new (.refl _ _) (o := .lst [.str s10, .str s11]) e3).set (o := .lst [.ref g.r0, .ref g.r1, .ref g.r2, .ref a3, .ref g.r4, .ref g.r5, .ref a6, .int 6]) (by simp) (same_new e3 _ _ hat11)
        have h12a : upd (upd H11 a3 (.lst [.str s10, .str s11])) ev (.lst [.ref g.r0, .ref g.r1, .ref g.r2, .ref a3, .ref g.r4, .ref g.r5, .ref a6, .int 6]) a3 = some (.lst [.str s10, .str s11]) := (upd_ne n3e).trans upd_same
        have h12e : upd (upd H11 a3 (.lst [.str s10, .str s11])) ev (.lst [.ref g.r0, .ref g.r1, .ref g.r2, .ref a3, .ref g.r4, .ref g.r5, .ref a6, .int 6]) ev = some (.lst [.ref g.r0, .ref g.r1, .ref g.r2, .ref a3, .ref g.r4, .ref g.r5, .ref a6, .int 6]) := upd_same
        have D12 : Drw (upd (upd H11 a3 (.lst [.str s10, .str s11])) ev (.lst [.ref g.r0, .ref g.r1, .ref g.r2, .ref a3, .ref g.r4, .ref g.r5, .ref a6, .int 6])) d c := (P11.D.same (same_new e3)).upd ned.symm nec.symm
        have kH12 : Kp [d, pl] H (upd (upd H11 a3 (.lst [.str s10, .str s11])) ev (.lst [.ref g.r0, .ref g.r1, .ref g.r2, .ref a3, .ref g.r4, .ref g.r5, .ref a6, .int 6])) := (P11.k.trans (.same (same_new e3))).mut hev (same_new e3 _ _ hat11)
        refine r_ref ⟨_, sl_of h12a⟩ ?_
        intro C3 hC3
        have nC3d : C3 ≠ d := (D12.nd hC3).symm
        have nC3e : C3 ≠ ev := (ne_of_none h12e hC3).symm
        have hrp12 := k12.t _ _ (up3 hrp)
        have hfs12 := k12.t _ _ (up3 hfs)
        have hg112 := k12.t _ _ (up3 hg1)
        refine lc_list (K := K) (a := a3) (xs := [.str s10, .str s11]) (fun i H' => ∃ zs, Same (upd (upd H11 a3 (.lst [.str s10, .str s11])) ev (.lst [.ref g.r0, .ref g.r1, .ref g.r2, .ref a3, .ref g.r4, .ref g.r5, .ref a6, .int 6])) H' ∧ H' C3 = some (.lst zs) ∧ zs.length = i ∧ ∀ x ∈ zs, Fld H' x) ⟨[], same_new hC3, upd_same, rfl, all_nil⟩ (fun i H' _ ⟨_, s, _⟩ => sl_of (s _ _ h12a)) (fun i x H' hi ⟨zs, s, hc, hl, hz⟩ => ?_) (fun H13 ⟨zs, s13, hc, hl, hz⟩ => ?_)
        · obtain ⟨sx, rfl, oksx⟩ := nm_of [s10, s11] (by simp [ok10, ok11]) x (List.mem_of_getElem? hi)
          have hi2 := (List.getElem?_eq_some_iff.mp hi).1
          have hi2 : i < 2 := hi2
          have q1 := s _ _ hrp12
          have q2 := s _ _ hfs12
          have q3 := s _ _ hg112
          walk_at "rs"
          refine ⟨rfl, ?_⟩
          walk_at "rs"
          rename_i t ht
          have st := same_new (o := .tup [.str sx, .str fn1, .int fw]) ht
          have hct := st _ _ hc
          have kC : Kp [C3] (upd H' t (.tup [.str sx, .str fn1, .int fw])) (upd (upd H' t (.tup [.str sx, .str fn1, .int fw])) C3 (.lst (zs ++ [.ref t]))) := (Kp.refl _ _).set (by simp) hct
          exact ⟨zs, hct, Nat.lt_of_lt_of_le (show zs.length < 1000 by omega) (by decide), zs ++ [.ref t], Same.mut (s.trans st) hC3, upd_same, by simp [hl], mem_app (fun x m => ((hz x m).kp (.same (S := []) st)).kp kC) (all_cons (show Fld _ (.ref t) from ⟨t, sx, fn1, fw, rfl, kC.t _ _ upd_same, oksx, okf1, fw1, fw8⟩) all_nil)⟩
        have h13e := s13 _ _ h12e
        have s12 : Same (upd (upd H11 a3 (.lst [.str s10, .str s11])) ev (.lst [.ref g.r0, .ref g.r1, .ref g.r2, .ref a3, .ref g.r4, .ref g.r5, .ref a6, .int 6])) H13 := s13
        have hpl12 : ∃ o, (upd (upd H11 a3 (.lst [.str s10, .str s11])) ev (.lst [.ref g.r0, .ref g.r1, .ref g.r2, .ref a3, .ref g.r4, .ref g.r5, .ref a6, .int 6])) pl = some o := ⟨_, (upd_ne nep.symm).trans (same_new e3 _ _ P11.at_.at_)⟩
        obtain ⟨opl, hpl12⟩ := hpl12
        have hC3p : C3 ≠ pl := (ne_of_none hpl12 hC3).symm
        have hC3n : C3 ∉ [d, ev, pl] := not3 nC3d nC3e hC3p
        have h13a := s13 _ _ h12a
        have k13 : Kp [d, ev] H11 H13 := k12.trans (.same s13)
        have k14 : Kp [d, ev] H11 (upd H13 ev (.lst [.ref g.r0, .ref g.r1, .ref C3, .ref a3, .ref g.r4, .ref g.r5, .ref a6, .int 6])) := k13.set (by simp) h13e
        have kev : Kp [ev] H13 (upd H13 ev (.lst [.ref g.r0, .ref g.r1, .ref C3, .ref a3, .ref g.r4, .ref g.r5, .ref a6, .int 6])) := (Kp.refl _ _).set (by simp) h13e
        have D13 := D12.same s13
        have G14 := F11.G.rec23 (k14.mono (by simp)) upd_same ((upd_ne nC3e).trans hc) ((upd_ne n3e).trans h13a) hC3n hna3 (fun x m => (hz x m).kp kev) (nm_of [s10, s11] (by simp [ok10, ok11])) ⟨fun e => (by rw [e] at hl; cases hl), rn, fn2, rfl, okr, okf2⟩ (by rw [hl]; exact (show 2 ≤ 100 by decide)) (by simp)
        have F14 := F11.env k14 ((kH12.trans (.same s13)).mut hev h13e) (D13.upd ned.symm nec.symm) G14 F11.ne npd nep.symm nCd2 nCe
        walk_at "rs"
        refine CD _ _ _ F14.P.D (by decide) (by decide) fun u H15 u0 u1 k15 D15 => ?_
        have F15 := F14.kp k15 D15 npd ned nCd2
        have hat15 := F15.G.at_
        have h3a15 := F15.G.a3
        have hrp15 := k15.t _ _ (k14.t _ _ (up3 hrp))
        walk_at "rs"
        refine ite2 (fun h => ?_) (fun h => ?_)
        · walk_at "rs"
          rename_i t1 ht1 t2 ht2
          have st := (same_new (o := .tup [.str "make", .str s10, .str rn]) ht1).trans (same_new (o := .tup [.ref t1]) ht2)
          have T1 := Tree.tup (n := 0) (xs := [.str "make", .str s10, .str rn]) ht1 (all_cons (.str (by decide +kernel)) (all_cons (.str ok10) (all_cons (.str okr) all_nil)))
          exact hx _ _ ⟨_, _, t2, [.ref t1], rfl, (F15.same st).wk (by omega), fun e => (by cases e), upd_same, by simp, all_cons ((T1.kp (.same (S := []) (same_new ht2))).le (by omega)) all_nil⟩
        · walk_at "rs"
          rename_i t1 ht1
          exact hx _ _ ⟨_, _, t1, [], rfl, (F15.same (same_new ht1)).wk (by omega), fun e => (by cases e), upd_same, by simp, all_nil⟩
    clear F7 hfp7 hl3
    rintro σ H7 ⟨g, qs7, fp, fs, rfl, F7, hl3, hfp, hfsl, hfst⟩
    -- a loop
    have nCd' : C2 ∉ [d] := by simpa using nCd2
    refine seq_nx (fun σ H' => ∃ k qs fp fs, σ = [some (.ref d), some (.ref pl), some (.int en), some (.int total), some (.ref ca), some (.int shape), some r, some (.ref wl), some (.ref ap), none, some (.ref C2), none, some (.ref ev), some (.ref fp), none, none, none, none] ∧ FSt d c pl ps H ev ap C2 xs ys r H' 9 qs g k ∧
      H' fp = some (.tup fs) ∧ fs.length ≤ 1 ∧ ∀ x ∈ fs, Tree 30 H' x) ?_ (fun nx' hx => ?_)
    rotate_left
    · walk_at "rs"
      refine ite2 (fun h => ?_) (fun h => ?_)
      · have hr7 := F7.hr
        obtain ⟨y0, ys', hys⟩ : ∃ y0 ys', ys = y0 :: ys' := by
          cases ys with
          | nil => exact absurd rfl hyne
          | cons a b => exact ⟨a, b, rfl⟩
        have hy0 : Row H7 y0 := F7.py y0 (by rw [hys]; exact List.mem_cons_self)
        obtain ⟨yp, yn, yu, e0, hyp, hyo, yu1, yu8⟩ := hy0
        have at0 : atI ys 0 = some y0 := by rw [hys]; exact at0
        walk_at "rs"
        refine r_ixL (sl_of hr7) at0 ?_
        walk_at "rs"
        refine CD _ _ _ F7.P.D (by decide) (by decide) fun u H8 u0 u1 k8 D8 => ?_
        have F8 := F7.kp k8 D8 npd ned nCd2
        walk_at "rs"
        refine ⟨d, c, ev, [d, ev, pl], g, 6, 0, u, rfl, D8, by simp, by simp, ned, nec, F8.G, F8.ne, by decide, by decide, u0, by omega, fun H9 bp k' bs k9 D9 G9 hbp hbl hbt => ?_⟩
        have F9 := F8.env k9 (F8.P.k.own k9 hev) D9 G9 F8.ne npd nep.symm nCd2 nCe
        walk_at "rs"
        subst e0
        refine ⟨d, c, ev, yp, bp, [d, ev, pl], g, k', bs, 24, rfl, D9, by simp, ned, G9, ⟨yp, yn, yu, rfl, k9.t _ _ (k8.t _ _ hyp), hyo, yu1, yu8⟩, hbp, by omega, hbt, by decide, fun H10 v k10 D10 t10 => ?_⟩
        have F10 := F9.kp k10 D10 npd ned nCd2
        walk_at "rs"
        rename_i t ht
        exact hx _ _ ⟨k', _, t, [v], rfl, F10.same (same_new ht), upd_same, by simp, all_cons ((t10.kp (.same (S := []) (same_new ht))).le (by omega)) all_nil⟩
      · walk_at "rs"
        exact hx _ _ ⟨_, _, fp, fs, rfl, F7, hfp, hfsl, hfst⟩
    clear F7 hfp hfsl hfst
    rintro σ H7 ⟨k7, qs7, fp, fs, rfl, F7, hfp, hfsl, hfst⟩
    (walk_at "rs1")
    walk_at "rt"
    refine CD _ _ _ F7.P.D (by decide) (by decide) fun gv H8 gv0 gv1 k8 D8 => ?_
    have F8 := F7.kp k8 D8 npd ned nCd2
    walk_at "rt"
    (walk_at "rs1")
    walk_at "rt"
    refine CD _ _ _ D8 (by decide) (by decide) fun u H9 u0 u1 k9 D9 => ?_
    have F9 := F8.kp k9 D9 npd ned nCd2
    walk_at "rt"
    refine CD _ _ _ D9 (by decide) (by decide) fun v H10 v0 v1 k10 D10 => ?_
    have F10 := F9.kp k10 D10 npd ned nCd2
    walk_at "rt"
    refine ⟨d, c, ev, [d, ev, pl], g, _, 1 + u, 1 + v, rfl, D10, by simp, by simp, ned, nec, F10.G, F10.ne, by omega, by omega, by omega, by omega, fun H11 bp k11 bs kk D11 G11 hbp hbl hbt => ?_⟩
    have F11 := F10.env kk (F10.P.k.own kk hev) D11 G11 F10.ne npd nep.symm nCd2 nCe
    have kx : Kp [d, ev] H7 H11 := (((k8.trans k9).trans k10).mono (by simp)).trans kk
    walk_at "rt"
    refine r_catT (kx.t _ _ hfp) hbp (len_ok (by omega)) fun bq H12 s12 hbq => ?_
    have F12 := F11.same s12
    have hball : ∀ x ∈ fs ++ bs, Tree 30 H12 x := mem_app (fun x m => ((hfst x m).kp kx).kp (.same (S := []) s12)) (fun x m => ((hbt x m).kp (.same (S := []) s12)).le (by omega))
    have hbl12 : (fs ++ bs).length ≤ 11 := by rw [List.length_append]; omega
    generalize fs ++ bs = b12 at *
    walk_at "rt"
    -- a return
    refine seq_nx (fun σ H' => ∃ qs k bp bs, σ = [some (.ref d), some (.ref pl), some (.int en), some (.int total), some (.ref ca), some (.int shape), some r, some (.ref wl), some (.ref ap), none, some (.ref C2), none, some (.ref ev), some (.ref fp), none, some (.int (1 + gv)), some (.ref bp), none] ∧ FSt d c pl ps H ev ap C2 xs ys r H' 9 qs g k ∧
      H' bp = some (.tup bs) ∧ bs.length ≤ 12 ∧ ∀ x ∈ bs, Tree 30 H' x) ?_ (fun nx' hx => ?_)
    rotate_left
    · walk_at "rs"
      refine CD _ _ _ F12.P.D (by decide) (by decide) fun u H13 u0 u1 k13 D13 => ?_
      have F13 := F12.kp k13 D13 npd ned nCd2
      walk_at "rs"
      refine ite2 (fun h => ?_) (fun h => ?_)
      · walk_at "rs"
        refine ⟨d, c, ev, [d, ev, pl], g, _, 1 + gv, 1, rfl, D13, by simp, ned, F13.G, by omega, by omega, by decide, by decide, fun H14 v14 k14 D14 t14 => ?_⟩
        have F14 := F13.kp k14 D14 npd ned nCd2
        walk_at "rs"
        rename_i t1 ht1 t2 ht2
        have T1 := Tree.tup (xs := [.str "return", v14]) ht1 (all_cons (.str (by decide +kernel)) (all_cons t14 all_nil))
        have st := (same_new (o := .tup [.str "return", v14]) ht1).trans (same_new (o := .tup [.ref t1]) ht2)
        refine r_catT (st _ _ (k14.t _ _ (k13.t _ _ hbq))) upd_same (len_ok (by simp; omega)) fun p15 H15 s15 hp15 => ?_
        walk_at "rs"
        exact hx _ _ ⟨_, _, p15, _, rfl, (F14.same st).same s15, hp15, by rw [List.length_append]; simp; omega, mem_app (fun x m => ((((hball x m).kp k13).kp k14).kp (.same (S := []) st)).kp (.same (S := []) s15)) (all_cons (((T1.kp (.same (S := []) (same_new ht2))).kp (.same (S := []) s15)).le (by omega)) all_nil)⟩
      · walk_at "rs"
        exact hx _ _ ⟨_, _, bq, _, rfl, F13, k13.t _ _ hbq, by omega, fun x m => (hball x m).kp k13⟩
    clear F7 F8 F9 F10 F11 F12 hball hbq hbp hbt hfst hfp
    rintro σ H7 ⟨qs7, k7, bp, bs, rfl, F7, hbp, hbl, hbt⟩
    have hat := F7.G.at_
    have hr7 := F7.hr
    have z1 := F7.G.z1
    have z3 := F7.G.z3
    walk_at "rs"
    refine r_cat hr7 F7.G.a1 (len_ok (by omega)) fun l1 hl1 => ?_
    have s1 := same_new (o := .lst (ys ++ g.l1)) hl1
    have F8 := F7.same s1
    have hat8 := F8.G.at_
    have hl18 : upd H7 l1 (.lst (ys ++ g.l1)) l1 = some (.lst (ys ++ g.l1)) := upd_same
    walk_at "rs"
    refine r_ref ⟨_, sl_of F8.G.a3⟩ fun C3 hC3 => ?_
    refine lc_list (K := K) (a := g.r3) (xs := g.l3) (fun i H' => ∃ zs, Same (upd H7 l1 (.lst (ys ++ g.l1))) H' ∧ H' C3 = some (.lst zs) ∧ zs.length = i ∧ ∀ x ∈ zs, Tree 1 H' x) ⟨[], same_new hC3, upd_same, rfl, all_nil⟩ (fun i H' _ ⟨_, s, _⟩ => sl_of (s _ _ F8.G.a3)) (fun i x H' hi ⟨zs, s, hc, hl, hz⟩ => ?_) (fun H9 ⟨zs, s9, hc, hl, hz⟩ => ?_)
    · have hxm := List.mem_of_getElem? hi
      obtain ⟨sx, rfl, oksx⟩ := F8.G.p3 x hxm
      have hi2 := (List.getElem?_eq_some_iff.mp hi).1
      rcases F8.rc with e | ⟨rp, rn, fs', g1, g2, fn1, fw, fn2, e, hrp, _, _, _, okr, _⟩
      · rw [hl3 e] at hxm
        cases hxm
      · subst e
        have hrp' := s _ _ hrp
        walk_at "rs"
        refine ⟨rfl, ?_⟩
        walk_at "rs"
        rename_i t ht
        have st := same_new (o := .tup [.str sx, .str rn]) ht
        have hct := st _ _ hc
        have kC : Kp [C3] (upd H' t (.tup [.str sx, .str rn])) (upd (upd H' t (.tup [.str sx, .str rn])) C3 (.lst (zs ++ [.ref t]))) := (Kp.refl _ _).set (by simp) hct
        exact ⟨zs, hct, Nat.lt_of_lt_of_le (show zs.length < 1000 by omega) (by decide), zs ++ [.ref t], Same.mut (s.trans st) hC3, upd_same, by simp [hl], mem_app (fun x m => ((hz x m).kp (.same (S := []) st)).kp kC) (all_cons ((Tree.tup (n := 0) ht (all_cons (.str oksx) (all_cons (.str okr) all_nil))).kp kC) all_nil)⟩
    have F9 := F8.same s9
    have hl19 := s9 _ _ hl18
    walk_at "rs"
    refine r_cat hl19 hc (len_ok (by rw [List.length_append]; omega)) fun l4 hl4 => ?_
    have F10 := F9.same (same_new (o := .lst (ys ++ g.l1 ++ zs)) hl4)
    walk_at "rs"
    refine ⟨l4, _, rfl, .inl ⟨sl_of upd_same, fun lp hlp => ?_⟩⟩
    have F11 := F10.same (same_new (o := .tup (ys ++ g.l1 ++ zs)) hlp)
    have s711 : Same H7 _ := ((s1.trans s9).trans (same_new (o := .lst (ys ++ g.l1 ++ zs)) hl4)).trans (same_new (o := .tup (ys ++ g.l1 ++ zs)) hlp)
    have hzl : ∀ x ∈ ys ++ g.l1 ++ zs, Tree 1 (upd H9 l4 (.lst (ys ++ g.l1 ++ zs))) x := by
      refine mem_app (mem_app (fun x m => .row (F10.py x m)) (fun x m => ?_)) (fun x m => (hz x m).kp (.same (S := []) (same_new hl4)))
      obtain ⟨p, nm, u, k, rfl, hp, ho, _⟩ := F10.G.p1 x m
      exact Tree.mk (n := 0) hp (all_cons (.str ho) (all_cons .int (all_cons .int all_nil)))
    have Tl := Tree.tup (n := 1) hlp hzl
    walk_at "rs"
    refine F11.P.pop npd npc h6 (by omega) fun H12 nm qs12 k12 P12 ok12 m12 nm12 => ?_
    have F12 := F11.pop k12 P12 evS CS2
    have hbp12 := k12.t _ _ (s711 _ _ hbp)
    walk_at "rs"
    rename_i t ht
    have st := same_new (o := .tup [.str "function", .str nm, .ref ap, .int (1 + gv), .int en, .ref lp, .ref bp]) ht
    have F13 := F12.same st
    refine q _ t qs12 nm ap (1 + gv) lp bp xs bs (F13.P.wk (by omega)) m12 nm12 ok12 upd_same F13.ha (by omega) hxne F13.px (st _ _ hbp12) (by omega) (Tree.le (n := 32) (Tree.tup (n := 31) ht (all_cons (.str (by decide +kernel)) (all_cons (.str ok12) (all_cons ?_ (all_cons .int (all_cons .int (all_cons ?_ (all_cons ?_ all_nil)))))))) (by decide))
    · exact (Tree.mk (n := 1) F12.ha fun x m => .row (F12.px x m)).le (by decide)
    · exact (Tl.kp k12).le (by decide)
    · exact Tree.mk hbp12 fun x m => ((hbt x m).kp (.same (S := []) s711)).kp k12
end
end Zn
namespace Zn
open PySem PySem.Spec PyProof.Rows L2 TL
/-- where the drawing of a program stands -/
structure PSt (d c pl C : Addr) (ps : List Str) (H : Hp) (r : V) (o : Option Str) (H' : Hp) (j : Nat) (qs : List Str) (cl : List V) (cp : List (Str × Option Int)) : Prop where
  P : Pl d c pl ps H H' j qs
  hc : H' C = some (.lst cl)
  L : PL H' cl cp
  nd : (cp.map (·.1)).Nodup
  fr : ∀ n ∈ cp.map (·.1), n ∉ qs
  pc : ∀ x ∈ cl, PartC H' x
  rc : RecAt H' r
  ro : (r = .non ∧ o = none) ∨ ∃ rp rn fs, r = .ref rp ∧ o = some rn ∧ H' rp = some (.tup [.str "record", .str rn, .ref fs]) ∧ okB rn = true ∧ Tree 5 H' r
  rf : ∀ n, o = some n → n ∉ qs ∧ n ∉ cp.map (·.1)
theorem PSt.kp {d c pl C : Addr} {ps qs qs2 : List Str} {H H1 H2 : Hp} {r : V} {o : Option Str} {j j2 : Nat} {cl : List V} {cp : List (Str × Option Int)} (h : PSt d c pl C ps H r o H1 j qs cl cp) (k : Kp [d, pl] H1 H2) (P : Pl d c pl ps H H2 j2 qs2) (hs : ∀ x ∈ qs2, x ∈ qs) (n : C ∉ [d, pl]) : PSt d c pl C ps H r o H2 j2 qs2 cl cp :=
  { P := P, hc := k.x _ _ n h.hc, L := h.L.kp k, nd := h.nd, fr := fun x m e => h.fr x m (hs x e), pc := fun x m => (h.pc x m).kp k, rc := h.rc.kp k,
    ro := h.ro.imp id fun ⟨rp, rn, fs, e1, e2, e3, e4, e5⟩ => ⟨rp, rn, fs, e1, e2, k.t _ _ e3, e4, e5.kp k⟩, rf := fun n e => ⟨fun m => (h.rf n e).1 (hs n m), (h.rf n e).2⟩ }
theorem PSt.same {d c pl C : Addr} {ps qs : List Str} {H H1 H2 : Hp} {r : V} {o : Option Str} {j : Nat} {cl : List V} {cp : List (Str × Option Int)} (h : PSt d c pl C ps H r o H1 j qs cl cp) (s : Same H1 H2) : PSt d c pl C ps H r o H2 j qs cl cp :=
  { P := h.P.same s, hc := s _ _ h.hc, L := h.L.kp (.same (S := []) s), nd := h.nd, fr := h.fr, pc := fun x m => (h.pc x m).kp (.same (S := []) s), rc := h.rc.kp (.same (S := []) s),
    ro := h.ro.imp id fun ⟨rp, rn, fs, e1, e2, e3, e4, e5⟩ => ⟨rp, rn, fs, e1, e2, s _ _ e3, e4, e5.kp (.same (S := []) s)⟩, rf := h.rf }
theorem PL.cons {H : Hp} {ys : List V} {qs : List (Str × Option Int)} {x : V} {s : Str × Option Int} (h : PL H ys qs) (hx : PartAt H x s.1 s.2) : PL H (x :: ys) (s :: qs) :=
  ⟨congrArg (· + 1) h.1, fun i y t hy ht => by
    cases i with
    | zero => cases hy; cases ht; exact hx
    | succ i => exact h.2 i y t hy ht⟩
/-- a name is taken: the rest are fewer -/
theorem Pl.pop2 {d c pl : Addr} {ps qs : List Str} {H H1 : Hp} {j : Nat} {Q : VK} (h : Pl d c pl ps H H1 j qs) (npd : pl ≠ d) (npc : pl ≠ c) (h1 : ps.length ≤ 1000) (hj : j < ps.length)
    (q : ∀ H2 s qs2, Kp [d, pl] H1 H2 → Pl d c pl ps H H2 (j + 1) qs2 → (∀ x ∈ qs2, x ∈ qs) → okB s = true → s ∈ qs → s ∉ qs2 → Q (.str s) H2) : spPop [.ref d, .ref pl] H1 Q E0 := by
  have h2 := h.len
  have h3 := h.le
  exact ⟨d, c, pl, qs, rfl, h.D, npd, npc, h.at_, by omega, by omega, fun H2 s qs2 k D hq m nm sub len ok => q H2 s qs2 k ⟨h.k.trans k, D, hq, by omega, by omega, fun x hx => h.sub x (sub x hx)⟩ sub ok m nm⟩
/-- behind a call that drew from the pool as it was -/
theorem Pl.then {d c pl : Addr} {ps qs qs2 : List Str} {H H1 H2 : Hp} {j i : Nat} (h : Pl d c pl ps H H1 j qs) (h2 : Pl d c pl qs H1 H2 i qs2) : Pl d c pl ps H H2 (j + i) qs2 :=
  ⟨h.k.trans h2.k, h2.D, h2.at_, by have := h.len; have := h2.len; omega, Nat.le_trans h2.le h.le, fun x m => h.sub x (h2.sub x m)⟩
/-- a part is appended -/
theorem PSt.add {d c pl C : Addr} {ps qs : List Str} {H H1 : Hp} {r : V} {o : Option Str} {j : Nat} {cl : List V} {cp : List (Str × Option Int)} {x : V} {nm : Str} {op : Option Int} (h : PSt d c pl C ps H r o H1 j qs cl cp) (hC : H C = none) (nCd : C ≠ d) (nCp : C ≠ pl) (nc : c ≠ C)
    (hx : PartAt H1 x nm op) (hp : PartC H1 x) (h1 : nm ∉ qs) (h2 : nm ∉ cp.map (·.1)) (h3 : ∀ n, o = some n → n ≠ nm) : PSt d c pl C ps H r o (upd H1 C (.lst (cl ++ [x]))) j qs (cl ++ [x]) (cp ++ [(nm, op)]) := by
  have k : Kp [C] H1 (upd H1 C (.lst (cl ++ [x]))) := (Kp.refl _ _).set (by simp) h.hc
  refine { P := h.P.mut hC h.hc nCd nCp nc, hc := upd_same, L := (h.L.kp k).snoc (hx.kp k), nd := ?_, fr := ?_, pc := (mem_app (fun y m => (h.pc y m).kp k) (all_cons (hp.kp k) all_nil)), rc := h.rc.kp k, ro := (h.ro.imp id fun ⟨rp, rn, fs, e1, e2, e3, e4, e5⟩ => ⟨rp, rn, fs, e1, e2, k.t _ _ e3, e4, e5.kp k⟩), rf := ?_ }
  · rw [List.map_append]
    exact List.nodup_append.mpr ⟨h.nd, by simp, fun a ha b hb => by
      simp only [List.map_cons, List.map_nil, List.mem_cons, List.not_mem_nil, or_false] at hb
      subst hb
      exact fun e => h2 (e ▸ ha)⟩
  · rw [List.map_append]
    exact mem_app h.fr (all_cons h1 all_nil)
  · intro n e
    refine ⟨(h.rf n e).1, ?_⟩
    rw [List.map_append]
    intro m
    rcases List.mem_append.mp m with m | m
    · exact (h.rf n e).2 m
    · simp only [List.map_cons, List.map_nil, List.mem_cons, List.not_mem_nil, or_false] at m
      exact h3 n e m
section
variable {P : Program} {w : World} {K : PySem.W.Frag} {mg : Str → Option Value} {base : Heap}
theorem ok_program {f : Addr} {fd : FuncData} (F : Fun K "_law_program" "_law_program" s__law_program f fd) (c__law_draw : Cal P w K mg base "_law_draw" 1 spDraw) (c__law_pop : Cal P w K mg base "_law_pop" 2 spPop) (c__law_rare : Cal P w K mg base "_law_rare" 2 spRare)
    (c__law_pool : Cal P w K mg base "_law_pool" 1 spPool) (c__law_external : Cal P w K mg base "_law_external" 12 spExt) (c__law_function : Cal P w K mg base "_law_function" 20 spFunc) (T : Tx mg) :
    FnOk P w K mg base CX0 21 f fd ["_law_d", "_law_shape"] spProg := by
  refine F.ok sc__law_program (fun vs H Q E h => ?_) (fun cdv A outer s H vs Q E hr h => ?_)
  · obtain ⟨d, c, m, rfl, _⟩ := h
    rfl
  · obtain ⟨d, c, m, rfl, hD0, m0, m1, q⟩ := h
    refine ⟨_, 
      (pss_cons (ps_set (i := 2) sc__law_program.nd rfl (Or.inl rfl) (Zn.pe_cal0 c__law_pool (hr.mono (by decide)) (by rfl)))
      (pss_cons (ps_set (i := 3) sc__law_program.nd rfl (Or.inl rfl) (pe_lst pa_nil))
      (pss_cons (ps_set (i := 4) sc__law_program.nd rfl (Or.inl rfl) pe_non)
      (pss_cons (ps_if (pt_cmpR op_eq (pv 1) pe_int (nomark _)) 
       (pss_cons (ps_set (i := 5) sc__law_program.nd rfl (Or.inl rfl) (Zn.pe_cal c__law_pop (hr.mono (by decide)) (by rfl) (pa_cons (pv 0) (pa_cons (pv 2) pa_nil))))
       (pss_one (ps_set (i := 4) sc__law_program.nd rfl (Or.inl rfl) (pe_tup (pa_cons pe_str (pa_cons (pv 5) (pa_cons (pe_tup (pa_cons (pe_tup (pa_cons (Zn.pe_cal c__law_pop (hr.mono (by decide)) (by rfl) (pa_cons (pv 0) (pa_cons (pv 2) pa_nil))) (pa_cons (pe_op op_add pe_int (Zn.pe_cal c__law_draw (hr.mono (by decide)) (by rfl) (pa_cons (pv 0) (pa_cons pe_int pa_nil)))) pa_nil))) (pa_cons (pe_tup (pa_cons (Zn.pe_cal c__law_pop (hr.mono (by decide)) (by rfl) (pa_cons (pv 0) (pa_cons (pv 2) pa_nil))) (pa_cons (pv 5) pa_nil))) pa_nil))) pa_nil))))))) pss_nil)
      (pss_cons (ps_if (pt_cmpR op_eq (pv 1) pe_int (nomark _)) 
       (pss_one (ps_expr (pe_bm PySem.F.plainAttrs_list PySem.F.slot_list_append PySem.F.type_list_append mt_append (pv 3) (pa_cons (Zn.pe_cal c__law_external (hr.mono (by decide)) (by rfl) (pa_cons (pv 0) (pa_cons (pv 2) pa_nil))) pa_nil)))) pss_nil)
      (pss_cons (ps_for PassesOwn.never rfl (pi_range1 (by rfl) T.z_range (pa_cons (pe_op op_add pe_int (Zn.pe_cal c__law_draw (hr.mono (by decide)) (by rfl) (pa_cons (pv 0) (pa_cons pe_int pa_nil)))) pa_nil)) (pg_name (i := 6) sc__law_program.nd rfl (Or.inl rfl)) 
       (pss_cons (ps_set (i := 7) sc__law_program.nd rfl (Or.inl rfl) (Zn.pe_cal c__law_function (hr.mono (by decide)) (by rfl) (pa_cons (pv 0) (pa_cons (pv 2) (pa_cons pe_int (pa_cons (pe_op op_add pe_int (Zn.pe_cal c__law_draw (hr.mono (by decide)) (by rfl) (pa_cons (pv 0) (pa_cons pe_int pa_nil)))) (pa_cons (pe_callTy call_list_of (by rfl) T.z_list (by decide +kernel) (pa_cons (pv 3) pa_nil)) (pa_cons (Zn.pe_cal c__law_draw (hr.mono (by decide)) (by rfl) (pa_cons (pv 0) (pa_cons pe_int pa_nil))) (pa_cons pe_non pa_nil)))))))))
       (pss_cons (ps_if (PW.pt (pw_and (pt_cmpR op_eq (pv 1) pe_int (nomark _)) (pw_and1 (pt_cmpR op_eq (pv 6) pe_int (nomark _))))) 
        (pss_cons (ps_set (i := 8) sc__law_program.nd rfl (Or.inl rfl) (pe_callTy call_tuple_of (by rfl) T.z_tuple (by decide +kernel) (pa_cons (pe_lc (own := [("_law_row", 9)]) rfl sc__law_program.nd (pi_tup (pe_ix (r := rIxT K) ix_tup (pv 7) pe_int (fun _ _ => rfl))) (blkOk_by (N := ["_law_d", "_law_shape", "_law_pool_here", "_law_calls", "_law_record", "_law_name", "_law_k", "_law_part", "_law_args", "_law_row", "_law_test", "_law_total", "_law_parts"]) (sc := defScope s__law_program) (by decide +kernel)) (fun _ _ _ _ _ => (pg_name (i := 9) sc__law_program.nd rfl (Or.inl rfl))) (fun _ _ _ _ _ => pts_nil) (fun _ _ _ _ _ => (pe_tup (pa_cons pe_str (pa_cons (pe_tup (pa_cons pe_str (pa_cons (pe_ix (r := rIxT K) ix_tup (pv 9) pe_int (fun _ _ => rfl)) pa_nil))) (pa_cons (pe_tup (pa_cons pe_str (pa_cons pe_int (pa_cons (pe_ix (r := rIxT K) ix_tup (pv 9) pe_int (fun _ _ => rfl)) pa_nil)))) pa_nil)))))) pa_nil)))
        (pss_cons (ps_set (i := 10) sc__law_program.nd rfl (Or.inl rfl) (pe_tup (pa_cons pe_str (pa_cons (pe_tup (pa_cons pe_str (pa_cons (pe_ix (r := rIxT K) ix_tup (pe_ix (r := rIxT K) ix_tup (pe_ix (r := rIxT K) ix_tup (pv 7) pe_int (fun _ _ => rfl)) pe_int (fun _ _ => rfl)) pe_int (fun _ _ => rfl)) pa_nil))) (pa_cons (pe_tup (pa_cons pe_str (pa_cons pe_int (pa_cons (pe_ix (r := rIxT K) ix_tup (pe_ix (r := rIxT K) ix_tup (pe_ix (r := rIxT K) ix_tup (pv 7) pe_int (fun _ _ => rfl)) pe_int (fun _ _ => rfl)) pe_int (fun _ _ => rfl)) pa_nil)))) pa_nil)))))
        (pss_one (ps_set (i := 7) sc__law_program.nd rfl (Or.inl rfl) (pe_op (r := rCatA K) op_catA (pe_slice (r := rSlA K) sl_tupA (pv 7) po_none (po_some pe_int)) (pe_tup (pa_cons (pe_op (r := rCatA K) op_catA (pe_tup (pa_cons (pe_tup (pa_cons pe_str (pa_cons (pv 10) (pa_cons (pe_tup (pa_cons (pe_tup (pa_cons pe_str (pa_cons pe_non (pa_cons (pe_ix (r := rIxT K) ix_tup (pv 7) pe_int (fun _ _ => rfl)) (pa_cons (pv 8) pa_nil))))) pa_nil)) (pa_cons (pe_tup pa_nil) pa_nil))))) pa_nil)) (pe_ix (r := rIxT K) ix_tup (pv 7) pe_int (fun _ _ => rfl))) pa_nil))))))) pss_nil)
       (pss_one (ps_expr (pe_bm PySem.F.plainAttrs_list PySem.F.slot_list_append PySem.F.type_list_append mt_append (pv 3) (pa_cons (pv 7) pa_nil)))))))
      (pss_cons (ps_set (i := 11) sc__law_program.nd rfl (Or.inl rfl) (pe_op op_add (pe_op op_add pe_int (Zn.pe_cal c__law_draw (hr.mono (by decide)) (by rfl) (pa_cons (pv 0) (pa_cons pe_int pa_nil)))) (pe_callTy call_int1 (by rfl) T.z_int (by decide +kernel) (pa_cons (Zn.pe_cal c__law_rare (hr.mono (by decide)) (by rfl) (pa_cons (pv 0) (pa_cons pe_int pa_nil))) pa_nil))))
      (pss_cons (ps_set (i := 7) sc__law_program.nd rfl (Or.inl rfl) (Zn.pe_cal c__law_function (hr.mono (by decide)) (by rfl) (pa_cons (pv 0) (pa_cons (pv 2) (pa_cons pe_int (pa_cons (pe_callB (call_min2 rfl) (by rfl) T.z_min (by decide +kernel) (pa_cons (pv 11) (pa_cons pe_int pa_nil))) (pa_cons (pe_callTy call_list_of (by rfl) T.z_list (by decide +kernel) (pa_cons (pv 3) pa_nil)) (pa_cons (pv 1) (pa_cons (pv 4) pa_nil)))))))))
      (pss_cons (ps_set (i := 12) sc__law_program.nd rfl (Or.inl rfl) (pe_op op_cat (pe_op op_cat (pe_ifExp (pt_cmpR op_notN (pv 4) pe_non (nomark _)) (pe_lst (pa_cons (pv 4) pa_nil)) (pe_lst pa_nil)) (pv 3)) (pe_lst (pa_cons (pv 7) pa_nil))))
      (pss_cons (ps_if (pt_truth (Zn.pe_cal c__law_draw (hr.mono (by decide)) (by rfl) (pa_cons (pv 0) (pa_cons pe_int pa_nil))) (by intro _; rfl)) 
       (pss_one (ps_expr (pe_bm0 PySem.F.plainAttrs_list PySem.F.slot_list_reverse PySem.F.type_list_reverse mt_reverse (pv 12)))) pss_nil)
      (pss_one (ps_ret (pe_tup (pa_cons (pe_callTy call_tuple_of (by rfl) T.z_tuple (by decide +kernel) (pa_cons (pv 12) pa_nil)) (pa_cons (pe_ix (r := rIxT K) ix_tup (pv 7) pe_int (fun _ _ => rfl)) pa_nil))))))))))))))), ?_⟩
    have dd : d ∈ [d] := by simp
    have CD : ∀ H4 (m : Int) Q', Drw H4 d c → 1 ≤ m → m < 1000 → (∀ i H5, 0 ≤ i → i < m → Kp [d] H4 H5 → Drw H5 d c → Q' (.int i) H5) → spDraw [.ref d, .int m] H4 Q' E0 := fun H4 m Q' D4 m1 m2 q' =>
      ⟨d, c, m, rfl, D4, m1, by omega, fun i zs i0 i1 D5 => q' i _ i0 i1 (.drw D4 dd) D5⟩
    walk_at "rt"
    (walk_at "rs1")
    walk_at "rt"
    refine ⟨rfl, fun H0 pl ps s0 hpl0 hps p67 p1000 => ?_⟩
    have hD := hD0.same s0
    have npd : pl ≠ d := (hD0.nd hpl0).symm
    have npc : pl ≠ c := (hD0.nc hpl0).symm
    walk_at "rt"
    (walk_at "rs1")
    walk_at "rt"
    rename_i C hC
    have nCd : C ≠ d := (hD.nd hC).symm
    have nCp : C ≠ pl := (ne_of_none hps.at_ hC).symm
    have nCc : c ≠ C := hD.nc hC
    have CS : C ∉ [d, pl] := by simp [nCd, nCp]
    have P0 : Pl d c pl ps H0 H0 0 ps := ⟨.refl _ _, hD, hps, by omega, by omega, fun x h => h⟩
    have sC := same_new (o := .lst []) hC
    (walk_at "rs1")
    walk_at "rt"
    have S0 : PSt d c pl C ps H0 .non none (upd H0 C (.lst [])) 0 ps [] [] := { P := P0.same sC, hc := upd_same, L := ⟨rfl, fun i x s h => (by cases h)⟩, nd := (by simp), fr := fun n h => (by cases h), pc := all_nil, rc := .inl rfl, ro := .inl ⟨rfl, rfl⟩, rf := fun n h => (by cases h) }
    generalize upd H0 C (.lst []) = H1 at *
    -- a record
    refine seq_nx (fun σ H' => ∃ r o v5 qs, σ = [some (.ref d), some (.int m), some (.ref pl), some (.ref C), some r, v5, none, none, none, none, none, none, none] ∧ PSt d c pl C ps H0 r o H' 3 qs [] []) ?_ (fun nx' hx => ?_)
    rotate_left
    · walk_at "rs"
      refine ite2 (fun h => ?_) (fun h => ?_)
      · walk_at "rs"
        refine S0.P.pop2 npd npc p1000 (by omega) fun H2 s2 qs2 k2 P2 sub2 ok2 m2 nm2 => ?_
        have S2 := S0.kp k2 P2 sub2 CS
        walk_at "rs"
        refine P2.pop2 npd npc p1000 (by omega) fun H3 s3 qs3 k3 P3 sub3 ok3 m3 nm3 => ?_
        have S3 := S2.kp k3 P3 sub3 CS
        walk_at "rs"
        refine CD _ _ _ P3.D (by decide) (by decide) fun u H4 u0 u1 k4 D4 => ?_
        have P4 := P3.kp k4 D4 npd
        have S4 := S3.kp (k4.mono (by simp)) P4 (fun x h => h) CS
        walk_at "rs"
        rename_i t1 ht1
        have S5 := S4.same (same_new (o := .tup [.str s3, .int (1 + u)]) ht1)
        have T1 := Tree.tup (n := 0) (xs := [.str s3, .int (1 + u)]) ht1 (all_cons (.str ok3) (all_cons .int all_nil))
        refine S5.P.pop2 npd npc p1000 (by omega) fun H6 s6 qs6 k6 P6 sub6 ok6 m6 nm6 => ?_
        have S6 := S5.kp k6 P6 sub6 CS
        have h16 := k6.t _ _ (show upd H4 t1 (.tup [.str s3, .int (1 + u)]) t1 = _ from upd_same)
        walk_at "rs"
        rename_i t2 ht2 t3 ht3 t4 ht4
        have st := ((same_new (o := .tup [.str s6, .str s2]) ht2).trans (same_new (o := .tup [.ref t1, .ref t2]) ht3)).trans (same_new (o := .tup [.str "record", .str s2, .ref t3]) ht4)
        have S7 := S6.same st
        have w1 := st _ _ h16
        have w2 : upd (upd (upd H6 t2 (.tup [.str s6, .str s2])) t3 (.tup [.ref t1, .ref t2])) t4 (.tup [.str "record", .str s2, .ref t3]) t2 = some (.tup [.str s6, .str s2]) := by walk_at "fd"
        have w3 : upd (upd (upd H6 t2 (.tup [.str s6, .str s2])) t3 (.tup [.ref t1, .ref t2])) t4 (.tup [.str "record", .str s2, .ref t3]) t3 = some (.tup [.ref t1, .ref t2]) := by walk_at "fd"
        have w4 : upd (upd (upd H6 t2 (.tup [.str s6, .str s2])) t3 (.tup [.ref t1, .ref t2])) t4 (.tup [.str "record", .str s2, .ref t3]) t4 = some (.tup [.str "record", .str s2, .ref t3]) := upd_same
        have tw1 : Tree 1 _ (.ref t1) := Tree.mk (n := 0) w1 (all_cons (.str ok3) (all_cons .int all_nil))
        have tw2 : Tree 1 _ (.ref t2) := Tree.mk (n := 0) w2 (all_cons (.str ok6) (all_cons (.str ok2) all_nil))
        have tw4 : Tree 3 _ (.ref t4) := Tree.mk w4 (all_cons (.str (by decide +kernel)) (all_cons (.str ok2) (all_cons (Tree.mk w3 (all_cons tw1 (all_cons tw2 all_nil))) all_nil)))
        refine hx _ _ ⟨.ref t4, some s2, _, qs6, rfl, { P := S7.P, hc := S7.hc, L := S7.L, nd := S7.nd, fr := S7.fr, pc := S7.pc, rc := .inr ⟨t4, s2, t3, t1, t2, s3, 1 + u, s6, rfl, w4, w3, w1, w2, ok2, ok3, ok6, by omega, by omega⟩, ro := .inr ⟨t4, s2, t3, rfl, rfl, w4, ok2, tw4.le (by omega)⟩, rf := fun n e => ?_ }⟩
        cases e
        exact ⟨fun mm => nm2 (sub3 _ (sub6 _ mm)), by simp⟩
      · walk_at "rs"
        exact hx _ _ ⟨_, _, _, _, rfl, S0.kp (.refl _ _) (S0.P.wk (by omega)) (fun x h => h) CS⟩
    clear S0 P0
    rintro σ H1 ⟨r, o, v5, qs1, rfl, S1⟩
    -- an external
    refine seq_nx (fun σ H' => ∃ qs cl cp, σ = [some (.ref d), some (.int m), some (.ref pl), some (.ref C), some r, v5, none, none, none, none, none, none, none] ∧ PSt d c pl C ps H0 r o H' 7 qs cl cp ∧ cl.length ≤ 1) ?_ (fun nx' hx => ?_)
    rotate_left
    · have hcl := S1.hc
      have l1 := S1.P.len
      have l2 := S1.P.le
      walk_at "rs"
      refine ite2 (fun h => ?_) (fun h => ?_)
      · walk_at "rs"
        refine ⟨d, c, pl, qs1, rfl, S1.P.D, npd, npc, S1.P.at_, by omega, by omega, fun H2 p qs2 nm q' u rest rs k D hq len1 len2 sub mm nmm okn hp2 hq2 rsl rsr tr => ?_⟩
        have S2 := S1.kp k (j2 := 7) (qs2 := qs2) ⟨S1.P.k.trans k, D, hq, by omega, by omega, fun x hx => S1.P.sub x (sub x hx)⟩ sub CS
        walk_at "rs"
        refine r_append S2.hc (by decide) ?_
        walk_at "rs"
        exact hx _ _ ⟨_, _, _, rfl, S2.add hC nCd nCp nCc (op := none) ⟨okn, tr, p, rfl, .inr ⟨"external", _, rfl, by decide +kernel, hp2⟩⟩ ⟨p, .str "external", nm, q', u, rest, rs, rfl, hp2, okn, hq2, rsl, rsr⟩ nmm (by simp) (fun n e e2 => (S1.rf n e).1 (e2 ▸ mm)), by simp⟩
      · walk_at "rs"
        exact hx _ _ ⟨_, _, _, rfl, S1.kp (.refl _ _) (S1.P.wk (by omega)) (fun x h => h) CS, by simp⟩
    clear S1
    rintro σ H1 ⟨qs1, cl1, cp1, rfl, S1, hcl1⟩
    -- the functions that are called
    walk_at "rt"
    (walk_at "rs1")
    walk_at "rt"
    refine CD _ _ _ S1.P.D (by decide) (by decide) fun n H2 n0 n1 k2 D2 => ?_
    have S2 := S1.kp (k2.mono (by simp)) (S1.P.kp k2 D2 npd) (fun x h => h) CS
    walk_at "rt"
    refine fr (fun i σ H' => ∃ qs cl cp v6 v7 v8 v9 v10, σ = [some (.ref d), some (.int m), some (.ref pl), some (.ref C), some r, v5, v6, v7, v8, v9, v10, none, none] ∧ PSt d c pl C ps H0 r o H' (7 + 12 * i) qs cl cp ∧ cl.length ≤ 1 + i) ?_ ?_ ?_
    · exact ⟨_, _, _, _, _, _, _, _, rfl, S2, by omega⟩
    · rintro i σ H3 hi ⟨qs3, cl3, cp3, v6, v7, v8, v9, v10, rfl, S3, hl3⟩
      have hi : i < 2 := by omega
      have l1 := S3.P.len
      have l2 := S3.P.le
      have hc3 := S3.hc
      walk_at "rt"
      (walk_at "rs1")
      walk_at "rt"
      refine CD _ _ _ S3.P.D (by decide) (by decide) fun u H4 u0 u1 k4 D4 => ?_
      have S4 := S3.kp (k4.mono (by simp)) (S3.P.kp k4 D4 npd) (fun x h => h) CS
      have hc4 := S4.hc
      walk_at "rt"
      intro ca hca
      have S5 := S4.same (same_new (o := .lst cl3) hca)
      have nca : ca ≠ d := (D4.nd hca).symm
      have ncap : ca ≠ pl := (ne_of_none S4.P.at_.at_ hca).symm
      walk_at "rt"
      refine CD _ _ _ S5.P.D (by decide) (by decide) fun sh H6 sh0 sh1 k6 D6 => ?_
      have S6 := S5.kp (k6.mono (by simp)) (S5.P.kp k6 D6 npd) (fun x h => h) CS
      have hca6 := k6.x _ _ (by simpa using nca) (show upd H4 ca (.lst cl3) ca = _ from upd_same)
      walk_at "rt"
      refine ⟨d, c, pl, ca, qs3, 0, 1 + u, sh, cl3, .non, rfl, D6, npd, npc, S6.P.at_, by omega, by omega, by omega, by omega, hca6, nca, ncap, by omega, S6.pc, .inl rfl, fun H7 p qs7 nm q' gv lo bd rs bs P7 mm nmm okn hp7 hq7 rsl rsne rsr hbd hbl tr => ?_⟩
      have S7 := S6.kp P7.k (S6.P.then P7) P7.sub CS
      walk_at "rt"
      refine seq_nx (fun σ H' => ∃ v8 v10 p' bd', σ = [some (.ref d), some (.int m), some (.ref pl), some (.ref C), some r, v5, some (.int (0 + (i : Int))), some (.ref p'), v8, v9, v10, none, none] ∧ Same H7 H' ∧
        H' p' = some (.tup [.str "function", .str nm, .ref q', .int gv, .int 0, .ref lo, .ref bd']) ∧ Tree 40 H' (.ref p')) ?_ (fun nx' hx => ?_)
      rotate_left
      · walk_at "rs"
        refine ite2 (fun h => ?_) (fun h => ?_)
        rotate_left
        · walk_at "rs"
          exact hx _ _ ⟨_, _, p, bd, rfl, Same.refl _, hp7, tr.le (by decide)⟩
        walk_at "rs"
        refine ite2 (fun h2 => ?_) (fun h2 => ?_)
        rotate_left
        · walk_at "rs"
          exact hx _ _ ⟨_, _, p, bd, rfl, Same.refl _, hp7, tr.le (by decide)⟩
        have hpt := tr.parts hp7
        have hbt := (hpt (.ref bd) (by simp)).parts hbd
        obtain ⟨r0, rs', hrs⟩ : ∃ a l, rs = a :: l := by
          cases rs with
          | nil => exact absurd rfl rsne
          | cons a b => exact ⟨a, b, rfl⟩
        obtain ⟨zp, zn, zu, ez, hzp, hzo, _⟩ := rsr r0 (by rw [hrs]; exact List.mem_cons_self)
        have at00 : atI rs 0 = some r0 := by rw [hrs]; exact at0
        walk_at "rs"
        refine r_ref ⟨_, st_of hq7⟩ fun C3 hC3 => ?_
        refine lc_tup (K := K) (a := q') (xs := rs) (fun i H' => ∃ zs, Same H7 H' ∧ H' C3 = some (.lst zs) ∧ zs.length = i ∧ ∀ x ∈ zs, Tree 2 H' x) ⟨[], same_new hC3, upd_same, rfl, all_nil⟩ (fun i H' _ ⟨_, s, _⟩ => st_of (s _ _ hq7)) (fun i x H' hi' ⟨zs, s, hc, hl, hz⟩ => ?_) (fun H8 ⟨zs, s8, hc, hl, hz⟩ => ?_)
        · obtain ⟨yp, yn, yu, rfl, hyp, hyo, _⟩ := rsr x (List.mem_of_getElem? hi')
          have hi2 := (List.getElem?_eq_some_iff.mp hi').1
          have hyp' := s _ _ hyp
          walk_at "rs"
          refine ⟨rfl, ?_⟩
          walk_at "rs"
          rename_i t1 ht1 t2 ht2 t3 ht3
          have T1 := Tree.tup (n := 0) (xs := [.str "name", .str yn]) ht1 (all_cons (.str (by decide +kernel)) (all_cons (.str hyo) all_nil))
          have T2 := Tree.tup (n := 0) (xs := [.str "word", .int 1, .int yu]) ht2 (all_cons (.str (by decide +kernel)) (all_cons .int (all_cons .int all_nil)))
          have T3 := Tree.tup (n := 1) (xs := [.str "-", .ref t1, .ref t2]) ht3 (all_cons (.str (by decide +kernel)) (all_cons (T1.kp (.same (S := []) (same_new ht2))) (all_cons T2 all_nil)))
          have st := ((same_new (o := .tup [.str "name", .str yn]) ht1).trans (same_new (o := .tup [.str "word", .int 1, .int yu]) ht2)).trans (same_new (o := .tup [.str "-", .ref t1, .ref t2]) ht3)
          have hct := st _ _ hc
          have kC : Kp [C3] _ _ := (Kp.refl [C3] _).set (o := .lst (zs ++ [.ref t3])) (by simp) hct
          exact ⟨zs, hct, Nat.lt_of_lt_of_le (show zs.length < 1000 by omega) (by decide), zs ++ [.ref t3], Same.mut (s.trans st) hC3, upd_same, by simp [hl], mem_app (fun x m => ((hz x m).kp (.same (S := []) st)).kp kC) (all_cons (T3.kp kC) all_nil)⟩
        walk_at "rs"
        refine ⟨C3, _, rfl, .inl ⟨sl_of hc, fun ap hap => ?_⟩⟩
        have sa := same_new (o := .tup zs) hap
        have Ta := Tree.tup (n := 2) hap fun x m => (hz x m).kp (.same (S := []) (Same.refl _))
        have s9 := s8.trans sa
        have hp9 := s9 _ _ hp7
        have hq9 := s9 _ _ hq7
        have hz9 := s9 _ _ hzp
        generalize upd H8 ap (.tup zs) = H9 at *
        walk_at "rs"
        refine r_ixT (st_of hq9) at00 ?_
        subst ez
        walk_at "rs"
        rename_i a1 e1
        have T1 := Tree.tup (n := 0) (xs := [.str "name", .str zn]) e1 (all_cons (.str (by decide +kernel)) (all_cons (.str hzo) all_nil))
        refine r_ixT (st_of (same_new e1 _ _ hq9)) at00 ?_
        walk_at "rs"
        rename_i a2 e2 a3 e3
        have T2 := Tree.tup (n := 0) (xs := [.str "word", .int 0, .int zu]) e2 (all_cons (.str (by decide +kernel)) (all_cons .int (all_cons .int all_nil)))
        have T3 := Tree.tup (n := 1) (xs := [.str "!=", .ref a1, .ref a2]) e3 (all_cons (.str (by decide +kernel)) (all_cons (T1.kp (.same (S := []) (same_new e2))) (all_cons T2 all_nil)))
        have s12 : Same H9 (upd (upd (upd H9 a1 (.tup [.str "name", .str zn])) a2 (.tup [.str "word", .int 0, .int zu])) a3 (.tup [.str "!=", .ref a1, .ref a2])) := ((same_new e1).trans (same_new e2)).trans (same_new e3)
        have hp12 := s12 _ _ hp9
        have hbd12 := s12 _ _ (s9 _ _ hbd)
        have Ta12 := Ta.kp (.same (S := []) s12)
        generalize upd (upd (upd H9 a1 (.tup [.str "name", .str zn])) a2 (.tup [.str "word", .int 0, .int zu])) a3 (.tup [.str "!=", .ref a1, .ref a2]) = H12 at *
        refine r_slA hp12 (show ¬ ((0 : Nat) = 0 ∧ (6 : Nat) = 7) by decide) fun p4 hp4 => ?_
        have s13 := same_new (o := .tup (cutV [.str "function", .str nm, .ref q', .int gv, .int 0, .ref lo, .ref bd] none (some 6))) hp4
        have h4 : upd H12 p4 (.tup (cutV [.str "function", .str nm, .ref q', .int gv, .int 0, .ref lo, .ref bd] none (some 6))) p4 = some (.tup [.str "function", .str nm, .ref q', .int gv, .int 0, .ref lo]) := upd_same
        have hp13 := s13 _ _ hp12
        have hbd13 := s13 _ _ hbd12
        have Ta13 := Ta12.kp (.same (S := []) s13)
        have T313 := T3.kp (.same (S := []) s13)
        have s713 : Same H7 _ := (s9.trans s12).trans s13
        generalize upd H12 p4 (.tup (cutV [.str "function", .str nm, .ref q', .int gv, .int 0, .ref lo, .ref bd] none (some 6))) = H13 at *
        walk_at "rs"
        rename_i b1 f1 b2 f2 b3 f3 b4 f4 b5 f5
        have B1 := Tree.tup (n := 3) (xs := [.str "call", .non, .str nm, .ref ap]) f1 (all_cons (.str (by decide +kernel)) (all_cons .non (all_cons (.str okn) (all_cons Ta13 all_nil))))
        have B2 := Tree.tup (n := 4) (xs := [.ref b1]) f2 (all_cons B1 all_nil)
        have B3 := Tree.tup (n := 4) (xs := []) f3 all_nil
        have sb3 := ((same_new (o := .tup [.str "call", .non, .str nm, .ref ap]) f1).trans (same_new (o := .tup [.ref b1]) f2)).trans (same_new (o := .tup []) f3)
        have B4 := Tree.tup (n := 5) (xs := [.str "if", .ref a3, .ref b2, .ref b3]) f4 (all_cons (.str (by decide +kernel)) (all_cons ((T313.kp (.same (S := []) sb3)).le (by decide)) (all_cons (B2.kp (.same (S := []) (same_new f3))) (all_cons B3 all_nil))))
        have sb5 := (sb3.trans (same_new (o := .tup [.str "if", .ref a3, .ref b2, .ref b3]) f4)).trans (same_new (o := .tup [.ref b4]) f5)
        have B4' := B4.kp (.same (S := []) (same_new (o := .tup [.ref b4]) f5))
        refine r_catT (xs := [.ref b4]) (ys := bs) upd_same (sb5 _ _ hbd13) (len_ok (by simp; omega)) fun bq H14 s14 hbq => ?_
        have s1314 := sb5.trans s14
        have B4q := B4'.kp (.same (S := []) s14)
        have hp14 := s1314 _ _ hp13
        have h414 := s1314 _ _ h4
        have s714 := s713.trans s1314
        walk_at "rs"
        rename_i b6 f6
        have s15 := same_new (o := .tup [.ref bq]) f6
        refine r_catT (xs := [.str "function", .str nm, .ref q', .int gv, .int 0, .ref lo]) (ys := [.ref bq]) (s15 _ _ h414) upd_same (len_ok (show 6 + 1 ≤ 100000 by decide)) fun p' H16 s16 hp' => ?_
        have s16' := s714.trans (s15.trans s16)
        walk_at "rs"
        refine hx _ _ ⟨_, _, p', bq, rfl, s16', hp', ?_⟩
        have kk : Kp [] H14 H16 := .same (s15.trans s16)
        have hpt16 : ∀ x ∈ [V.str "function", .str nm, .ref q', .int gv, .int 0, .ref lo, .ref bd], Tree 35 H16 x := fun x m => (hpt x m).kp (.same (S := []) s16')
        have hbq16 : Tree 36 H16 (.ref bq) := Tree.mk (n := 35) (kk.t _ _ hbq) (all_cons ((B4q.kp kk).le (by decide)) fun x m => ((hbt x m).kp (.same (S := []) s16')).le (by decide))
        exact (Tree.mk (n := 36) hp' (all_cons ((hpt16 _ (by simp)).le (by decide)) (all_cons ((hpt16 _ (by simp)).le (by decide)) (all_cons ((hpt16 _ (by simp)).le (by decide)) (all_cons ((hpt16 _ (by simp)).le (by decide)) (all_cons .int (all_cons ((hpt16 _ (by simp)).le (by decide)) (all_cons hbq16 all_nil)))))))).le (by decide)
      rintro σ H8 ⟨v8', v10', p', bd', rfl, s78, hp8, tr8⟩
      have S8 := S7.same s78
      have hc8 := S8.hc
      walk_at "rs"
      refine r_append S8.hc (Nat.lt_of_le_of_lt (show cl3.length ≤ 1000 by omega) (by decide)) ?_
      walk_at "rs"
      refine ⟨_, _, _, _, _, _, _, _, rfl, (S8.add hC nCd nCp nCc (op := some 0) ⟨okn, tr8, p', rfl, .inl ⟨_, _, 0, _, _, rfl, hp8⟩⟩ ⟨p', .str "function", nm, q', gv, _, rs, rfl, hp8, okn, s78 _ _ hq7, rsl, fun x m => (rsr x m).kp (.same (S := []) s78)⟩ nmm (fun m2 => S6.fr _ m2 mm) (fun n e e2 => (S6.rf n e).1 (e2 ▸ mm))).kp (.refl _ _) ?_ (fun x h => h) CS, by rw [List.length_append, List.length_singleton]; omega⟩
      exact (S8.P.mut hC S8.hc nCd nCp nCc).wk (by omega)
    · rintro σ H3 ⟨qs3, cl3, cp3, v6, v7, v8, v9, v10, rfl, S3, hl3⟩
      clear S1 S2
      have l1 := S3.P.len
      have l2 := S3.P.le
      have hl3 : cl3.length ≤ 3 := by omega
      have hj : 7 + 12 * (1 + n).toNat ≤ 31 := by omega
      have S3 := S3.kp (.refl _ _) (S3.P.wk hj) (fun x h => h) CS
      have l1 := S3.P.len
      (walk_at "rs1")
      walk_at "rt"
      refine CD _ _ _ S3.P.D (by decide) (by decide) fun u H4 u0 u1 k4 D4 => ?_
      walk_at "rt"
      refine ⟨d, c, 16, rfl, D4, by decide, by decide, fun b zs D5 => ?_⟩
      have k5 : Kp [d] H3 (upd H4 d (.lst zs)) := k4.trans (.drw D4 dd)
      have S5 := S3.kp (k5.mono (by simp)) (S3.P.kp k5 D5 npd) (fun x h => h) CS
      generalize upd H4 d (.lst zs) = H5 at *
      have hc5 := S5.hc
      walk_at "rt"
      (walk_at "rs1")
      walk_at "rt"
      intro ca hca
      have S6 := S5.same (same_new (o := .lst cl3) hca)
      have nca : ca ≠ d := (D5.nd hca).symm
      have ncap : ca ≠ pl := (ne_of_none S5.P.at_.at_ hca).symm
      have hcal : upd H5 ca (.lst cl3) ca = some (.lst cl3) := upd_same
      generalize upd H5 ca (.lst cl3) = H6 at *
      walk_at "rt"
      have hb : (0 : Int) ≤ (if b = true then 1 else 0) ∧ (if b = true then 1 else 0 : Int) ≤ 1 := by split <;> omega
      refine ⟨d, c, pl, ca, qs3, 1, _, m, cl3, r, rfl, S6.P.D, npd, npc, S6.P.at_, by omega, by omega, by split <;> omega, by split <;> omega, hcal, nca, ncap, by omega, S6.pc, S6.rc, fun H7 p qs7 nm q' gv lo bd rs bs P7 mm nmm okn hp7 hq7 rsl rsne rsr hbd hbl tr => ?_⟩
      have S7 := S6.kp P7.k (S6.P.then P7) P7.sub CS
      have hpart : PartAt H7 (.ref p) nm (some 1) := ⟨okn, tr.le (by decide), p, rfl, .inl ⟨_, _, 1, _, _, rfl, hp7⟩⟩
      have hnc : nm ∉ cp3.map (·.1) := fun m2 => S6.fr _ m2 mm
      have hro : ∀ x, o = some x → x ≠ nm := fun x e e2 => (S6.rf x e).1 (e2 ▸ mm)
      have hc7 := S7.hc
      have D7 := S7.P.D
      walk_at "rt"
      refine seq_nx (fun σ H' => ∃ l xs cps, σ = [some (.ref d), some (.int m), some (.ref pl), some (.ref C), some r, v5, v6, some (.ref p), v8, v9, v10, some (.int (1 + u + if b = true then 1 else 0)), some (.ref l)] ∧ Kp [] H7 H' ∧ Drw H' d c ∧ H' l = some (.lst xs) ∧ Parts H' xs cps ∧ nm ∈ ents cps ∧ l ≠ d ∧ c ≠ l) ?_ (fun nx' hx => ?_)
      rotate_left
      · have last : ∀ H8 l (xs0 : List V) cps0, Same H7 H8 → H8 l = some (.lst xs0) → PL H8 xs0 cps0 → xs0.length ≤ 10 → (cps0.map (·.1)).Nodup → nm ∉ cps0.map (·.1) → ∀ t, H8 t = none → ∀ l2, upd H8 t (.lst [.ref p]) l2 = none →
            nx' [some (.ref d), some (.int m), some (.ref pl), some (.ref C), some r, v5, v6, some (.ref p), v8, v9, v10, some (.int (1 + u + if b = true then 1 else 0)), some (.ref l2)] (upd (upd H8 t (.lst [.ref p])) l2 (.lst (xs0 ++ [.ref p]))) := fun H8 l xs0 cps0 s8 hl hL h10 hnd hnn t ht l2 hl2 => by
          have s9 := (same_new (o := .lst [.ref p]) ht).trans (same_new (o := .lst (xs0 ++ [.ref p])) hl2)
          have D8 := D7.same s8
          have Dt := D8.same (same_new (o := .lst [.ref p]) ht)
          have hL2 : PL _ (xs0 ++ [.ref p]) (cps0 ++ [(nm, some 1)]) := (hL.kp (.same (S := []) s9)).snoc (s := (nm, some 1)) (hpart.kp (.same (S := []) (s8.trans s9)))
          refine hx _ _ ⟨l2, _, cps0 ++ [(nm, some 1)], rfl, .same (s8.trans s9), D8.same s9, upd_same, ⟨hL2.1, by rw [List.length_append, List.length_singleton]; omega, ?_, hL2.2⟩, ?_, (Dt.nd hl2).symm, Dt.nc hl2⟩
          · rw [List.map_append]
            exact List.nodup_append.mpr ⟨hnd, by simp, fun a ha b hb => by
              simp only [List.map_cons, List.map_nil, List.mem_cons, List.not_mem_nil, or_false] at hb
              subst hb
              exact fun e => hnn (e ▸ ha)⟩
          · rw [ents, List.filterMap_append]
            exact List.mem_append_right _ (by simp [ent1])
        rcases S7.ro with ⟨er, eo⟩ | ⟨rp, rn, fs, er, eo, hrp, okr, tr5⟩
        · subst er
          walk_at "rs"
          refine ⟨rfl, ?_⟩
          walk_at "rs"
          rename_i l0 hl0
          refine r_cat (xs := []) upd_same (same_new hl0 _ _ hc7) (len_ok (by simp; omega)) fun l1 hl1 => ?_
          walk_at "rs"
          rename_i t ht
          have s8 := (same_new (o := .lst []) hl0).trans (same_new (o := .lst ([] ++ cl3)) hl1)
          refine r_cat (same_new ht _ _ upd_same) upd_same (len_ok (by simp; omega)) fun l2 hl2 => ?_
          walk_at "rs"
          exact last _ l1 _ cp3 s8 upd_same (S7.L.kp (.same (S := []) s8)) (by simp; omega) S7.nd hnc t ht l2 hl2
        · subst er
          walk_at "rs"
          refine ⟨rfl, ?_⟩
          walk_at "rs"
          rename_i l0 hl0
          refine r_cat (xs := [.ref rp]) upd_same (same_new hl0 _ _ hc7) (len_ok (by simp; omega)) fun l1 hl1 => ?_
          walk_at "rs"
          rename_i t ht
          have s8 := (same_new (o := .lst [.ref rp]) hl0).trans (same_new (o := .lst ([.ref rp] ++ cl3)) hl1)
          refine r_cat (same_new ht _ _ upd_same) upd_same (len_ok (by simp; omega)) fun l2 hl2 => ?_
          walk_at "rs"
          refine last _ l1 _ ((rn, none) :: cp3) s8 upd_same ((S7.L.kp (.same (S := []) s8)).cons ⟨okr, (tr5.kp (.same (S := []) s8)).le (by decide), rp, rfl, .inr ⟨"record", _, rfl, by decide +kernel, s8 _ _ hrp⟩⟩) (by simp; omega) ?_ ?_ t ht l2 hl2
          · exact List.nodup_cons.mpr ⟨(S7.rf rn eo).2, S7.nd⟩
          · intro mm2
            rcases List.mem_cons.mp mm2 with e | mm2
            · exact hro rn eo e.symm
            · exact hnc mm2
      rintro σ H8 ⟨l, xs, cps, rfl, k78, D8, hl8, hP8, hnm8, nld, ncl⟩
      have hp8 := k78.t _ _ hp7
      refine seq_nx (fun σ H' => ∃ xs cps, σ = [some (.ref d), some (.int m), some (.ref pl), some (.ref C), some r, v5, v6, some (.ref p), v8, v9, v10, some (.int (1 + u + if b = true then 1 else 0)), some (.ref l)] ∧ Drw H' d c ∧ H' l = some (.lst xs) ∧ Parts H' xs cps ∧ nm ∈ ents cps ∧ H' p = some (.tup [.str "function", .str nm, .ref q', .int gv, .int 1, .ref lo, .ref bd])) ?_ (fun nx' hx => ?_)
      rotate_left
      · walk_at "rs"
        refine CD _ _ _ D8 (by decide) (by decide) fun z H9 z0 z1 k9 D9 => ?_
        have hl9 := k9.x _ _ (by simpa using nld) hl8
        walk_at "rs"
        refine ite2 (fun h => ?_) (fun h => ?_)
        · walk_at "rs"
          refine ⟨l, _, rfl, rfl, hl9, ?_⟩
          have kl : Kp [l] H9 (upd H9 l (.lst xs.reverse)) := (Kp.refl _ _).set (by simp) hl9
          walk_at "rs"
          exact hx _ _ ⟨_, cps.reverse, rfl, D9.upd nld.symm ncl, upd_same, ((hP8.kp k9).kp kl).rev, by rw [ents, List.filterMap_reverse]; exact List.mem_reverse.mpr hnm8, kl.t _ _ (k9.t _ _ hp8)⟩
        · walk_at "rs"
          exact hx _ _ ⟨_, _, rfl, D9, hl9, hP8.kp k9, hnm8, k9.t _ _ hp8⟩
      clear hl8 hP8 hnm8 hp8 D8 k78
      rintro σ H9 ⟨xs, cps, rfl, D9, hl9, hP9, hnm9, hp9⟩
      walk_at "rs"
      refine ⟨l, _, rfl, .inl ⟨sl_of hl9, fun pr hpr => ?_⟩⟩
      walk_at "rs"
      rename_i t ht
      have st := (same_new (o := .tup xs) hpr).trans (same_new (o := .tup [.ref pr, .str nm]) ht)
      exact q _ t pr xs cps nm (D9.same st) (same_new ht _ _ upd_same) (hP9.kp (.same (S := []) st)) hnm9 upd_same
end
end Zn
namespace Zn
open PySem PySem.Spec PyProof.Rows L2 TL
theorem all_mk {l : PySem.W.OpenLaw} {w : World} {K : PySem.W.Frag} {h : Heap} {mg : Str → Option Value} {fa : Addr} {f0 : Addr} {od0 an0 : Option Addr} {sl0 : Array (Option Value)} {oc0 kV0 dc0 pm0 cd0 ct0 : Value}
    {f1 : Addr} {od1 an1 : Option Addr} {sl1 : Array (Option Value)} {oc1 kV1 dc1 pm1 cd1 ct1 : Value}
    {f2 : Addr} {od2 an2 : Option Addr} {sl2 : Array (Option Value)} {oc2 kV2 dc2 pm2 cd2 ct2 : Value}
    {f3 : Addr} {od3 an3 : Option Addr} {sl3 : Array (Option Value)} {oc3 kV3 dc3 pm3 cd3 ct3 : Value}
    {f4 : Addr} {od4 an4 : Option Addr} {sl4 : Array (Option Value)} {oc4 kV4 dc4 pm4 cd4 ct4 : Value}
    {f5 : Addr} {od5 an5 : Option Addr} {sl5 : Array (Option Value)} {oc5 kV5 dc5 pm5 cd5 ct5 : Value}
    {f6 : Addr} {od6 an6 : Option Addr} {sl6 : Array (Option Value)} {oc6 kV6 dc6 pm6 cd6 ct6 : Value}
    {f7 : Addr} {od7 an7 : Option Addr} {sl7 : Array (Option Value)} {oc7 kV7 dc7 pm7 cd7 ct7 : Value}
    {f8 : Addr} {od8 an8 : Option Addr} {sl8 : Array (Option Value)} {oc8 kV8 dc8 pm8 cd8 ct8 : Value}
    {f9 : Addr} {od9 an9 : Option Addr} {sl9 : Array (Option Value)} {oc9 kV9 dc9 pm9 cd9 ct9 : Value}
    {f10 : Addr} {od10 an10 : Option Addr} {sl10 : Array (Option Value)} {oc10 kV10 dc10 pm10 cd10 ct10 : Value}
    {f11 : Addr} {od11 an11 : Option Addr} {sl11 : Array (Option Value)} {oc11 kV11 dc11 pm11 cd11 ct11 : Value}
    {f12 : Addr} {od12 an12 : Option Addr} {sl12 : Array (Option Value)} {oc12 kV12 dc12 pm12 cd12 ct12 : Value}
    {f13 : Addr} {od13 an13 : Option Addr} {sl13 : Array (Option Value)} {oc13 kV13 dc13 pm13 cd13 ct13 : Value}
    {f14 : Addr} {od14 an14 : Option Addr} {sl14 : Array (Option Value)} {oc14 kV14 dc14 pm14 cd14 ct14 : Value}
    {f15 : Addr} {od15 an15 : Option Addr} {sl15 : Array (Option Value)} {oc15 kV15 dc15 pm15 cd15 ct15 : Value}
    {f16 : Addr} {od16 an16 : Option Addr} {sl16 : Array (Option Value)} {oc16 kV16 dc16 pm16 cd16 ct16 : Value}
    {f17 : Addr} {od17 an17 : Option Addr} {sl17 : Array (Option Value)} {oc17 kV17 dc17 pm17 cd17 ct17 : Value}
    {f18 : Addr} {od18 an18 : Option Addr} {sl18 : Array (Option Value)} {oc18 kV18 dc18 pm18 cd18 ct18 : Value}
    {f19 : Addr} {od19 an19 : Option Addr} {sl19 : Array (Option Value)} {oc19 kV19 dc19 pm19 cd19 ct19 : Value}
    {f20 : Addr} {od20 an20 : Option Addr} {sl20 : Array (Option Value)} {oc20 kV20 dc20 pm20 cd20 ct20 : Value} (X : K.In h) (G : h.Ns mainGlobals mg) (hfa : mg "law" = some (.ref fa))
    (a0 : PySem.W.nsIn K mainGlobals "entries_of" = some (some (.ref f0))) (l0 : K.lookup f0 = some ⟨oc0, od0, .func (PySem.W.fnOf "entries_of" "entries_of" (defArgs s_entries_of) (defBody s_entries_of) (defScope s_entries_of) .none kV0 dc0 pm0 an0 cd0 ct0), sl0⟩) (c0 : PySem.W.codeIn K cd0 "entries_of" = true) (k0 : PySem.W.keepIn K (.ref f0) = true)
    (a1 : PySem.W.nsIn K mainGlobals "declared" = some (some (.ref f1))) (l1 : K.lookup f1 = some ⟨oc1, od1, .func (PySem.W.fnOf "declared" "declared" (defArgs s_declared) (defBody s_declared) (defScope s_declared) .none kV1 dc1 pm1 an1 cd1 ct1), sl1⟩) (c1 : PySem.W.codeIn K cd1 "declared" = true) (k1 : PySem.W.keepIn K (.ref f1) = true)
    (a2 : PySem.W.nsIn K mainGlobals "_law_begin" = some (some (.ref f2))) (l2 : K.lookup f2 = some ⟨oc2, od2, .func (PySem.W.fnOf "_law_begin" "_law_begin" (defArgs s__law_begin) (defBody s__law_begin) (defScope s__law_begin) .none kV2 dc2 pm2 an2 cd2 ct2), sl2⟩) (c2 : PySem.W.codeIn K cd2 "_law_begin" = true) (k2 : PySem.W.keepIn K (.ref f2) = true)
    (a3 : PySem.W.nsIn K mainGlobals "_law_draw" = some (some (.ref f3))) (l3 : K.lookup f3 = some ⟨oc3, od3, .func (PySem.W.fnOf "_law_draw" "_law_draw" (defArgs s__law_draw) (defBody s__law_draw) (defScope s__law_draw) .none kV3 dc3 pm3 an3 cd3 ct3), sl3⟩) (c3 : PySem.W.codeIn K cd3 "_law_draw" = true) (k3 : PySem.W.keepIn K (.ref f3) = true)
    (a4 : PySem.W.nsIn K mainGlobals "_law_pick" = some (some (.ref f4))) (l4 : K.lookup f4 = some ⟨oc4, od4, .func (PySem.W.fnOf "_law_pick" "_law_pick" (defArgs s__law_pick) (defBody s__law_pick) (defScope s__law_pick) .none kV4 dc4 pm4 an4 cd4 ct4), sl4⟩) (c4 : PySem.W.codeIn K cd4 "_law_pick" = true) (k4 : PySem.W.keepIn K (.ref f4) = true)
    (a5 : PySem.W.nsIn K mainGlobals "_law_pop" = some (some (.ref f5))) (l5 : K.lookup f5 = some ⟨oc5, od5, .func (PySem.W.fnOf "_law_pop" "_law_pop" (defArgs s__law_pop) (defBody s__law_pop) (defScope s__law_pop) .none kV5 dc5 pm5 an5 cd5 ct5), sl5⟩) (c5 : PySem.W.codeIn K cd5 "_law_pop" = true) (k5 : PySem.W.keepIn K (.ref f5) = true)
    (a6 : PySem.W.nsIn K mainGlobals "_law_rare" = some (some (.ref f6))) (l6 : K.lookup f6 = some ⟨oc6, od6, .func (PySem.W.fnOf "_law_rare" "_law_rare" (defArgs s__law_rare) (defBody s__law_rare) (defScope s__law_rare) .none kV6 dc6 pm6 an6 cd6 ct6), sl6⟩) (c6 : PySem.W.codeIn K cd6 "_law_rare" = true) (k6 : PySem.W.keepIn K (.ref f6) = true)
    (a7 : PySem.W.nsIn K mainGlobals "_law_pool" = some (some (.ref f7))) (l7 : K.lookup f7 = some ⟨oc7, od7, .func (PySem.W.fnOf "_law_pool" "_law_pool" (defArgs s__law_pool) (defBody s__law_pool) (defScope s__law_pool) .none kV7 dc7 pm7 an7 cd7 ct7), sl7⟩) (c7 : PySem.W.codeIn K cd7 "_law_pool" = true) (k7 : PySem.W.keepIn K (.ref f7) = true)
    (a8 : PySem.W.nsIn K mainGlobals "_law_leaf" = some (some (.ref f8))) (l8 : K.lookup f8 = some ⟨oc8, od8, .func (PySem.W.fnOf "_law_leaf" "_law_leaf" (defArgs s__law_leaf) (defBody s__law_leaf) (defScope s__law_leaf) .none kV8 dc8 pm8 an8 cd8 ct8), sl8⟩) (c8 : PySem.W.codeIn K cd8 "_law_leaf" = true) (k8 : PySem.W.keepIn K (.ref f8) = true)
    (a9 : PySem.W.nsIn K mainGlobals "_law_expr" = some (some (.ref f9))) (l9 : K.lookup f9 = some ⟨oc9, od9, .func (PySem.W.fnOf "_law_expr" "_law_expr" (defArgs s__law_expr) (defBody s__law_expr) (defScope s__law_expr) .none kV9 dc9 pm9 an9 cd9 ct9), sl9⟩) (c9 : PySem.W.codeIn K cd9 "_law_expr" = true) (k9 : PySem.W.keepIn K (.ref f9) = true)
    (a10 : PySem.W.nsIn K mainGlobals "_law_relation" = some (some (.ref f10))) (l10 : K.lookup f10 = some ⟨oc10, od10, .func (PySem.W.fnOf "_law_relation" "_law_relation" (defArgs s__law_relation) (defBody s__law_relation) (defScope s__law_relation) .none kV10 dc10 pm10 an10 cd10 ct10), sl10⟩) (c10 : PySem.W.codeIn K cd10 "_law_relation" = true) (k10 : PySem.W.keepIn K (.ref f10) = true)
    (a11 : PySem.W.nsIn K mainGlobals "_law_block" = some (some (.ref f11))) (l11 : K.lookup f11 = some ⟨oc11, od11, .func (PySem.W.fnOf "_law_block" "_law_block" (defArgs s__law_block) (defBody s__law_block) (defScope s__law_block) .none kV11 dc11 pm11 an11 cd11 ct11), sl11⟩) (c11 : PySem.W.codeIn K cd11 "_law_block" = true) (k11 : PySem.W.keepIn K (.ref f11) = true)
    (a12 : PySem.W.nsIn K mainGlobals "_law_loop" = some (some (.ref f12))) (l12 : K.lookup f12 = some ⟨oc12, od12, .func (PySem.W.fnOf "_law_loop" "_law_loop" (defArgs s__law_loop) (defBody s__law_loop) (defScope s__law_loop) .none kV12 dc12 pm12 an12 cd12 ct12), sl12⟩) (c12 : PySem.W.codeIn K cd12 "_law_loop" = true) (k12 : PySem.W.keepIn K (.ref f12) = true)
    (a13 : PySem.W.nsIn K mainGlobals "_law_statement" = some (some (.ref f13))) (l13 : K.lookup f13 = some ⟨oc13, od13, .func (PySem.W.fnOf "_law_statement" "_law_statement" (defArgs s__law_statement) (defBody s__law_statement) (defScope s__law_statement) .none kV13 dc13 pm13 an13 cd13 ct13), sl13⟩) (c13 : PySem.W.codeIn K cd13 "_law_statement" = true) (k13 : PySem.W.keepIn K (.ref f13) = true)
    (a14 : PySem.W.nsIn K mainGlobals "_law_reference" = some (some (.ref f14))) (l14 : K.lookup f14 = some ⟨oc14, od14, .func (PySem.W.fnOf "_law_reference" "_law_reference" (defArgs s__law_reference) (defBody s__law_reference) (defScope s__law_reference) .none kV14 dc14 pm14 an14 cd14 ct14), sl14⟩) (c14 : PySem.W.codeIn K cd14 "_law_reference" = true) (k14 : PySem.W.keepIn K (.ref f14) = true)
    (a15 : PySem.W.nsIn K mainGlobals "_law_external" = some (some (.ref f15))) (l15 : K.lookup f15 = some ⟨oc15, od15, .func (PySem.W.fnOf "_law_external" "_law_external" (defArgs s__law_external) (defBody s__law_external) (defScope s__law_external) .none kV15 dc15 pm15 an15 cd15 ct15), sl15⟩) (c15 : PySem.W.codeIn K cd15 "_law_external" = true) (k15 : PySem.W.keepIn K (.ref f15) = true)
    (a16 : PySem.W.nsIn K mainGlobals "_law_function" = some (some (.ref f16))) (l16 : K.lookup f16 = some ⟨oc16, od16, .func (PySem.W.fnOf "_law_function" "_law_function" (defArgs s__law_function) (defBody s__law_function) (defScope s__law_function) .none kV16 dc16 pm16 an16 cd16 ct16), sl16⟩) (c16 : PySem.W.codeIn K cd16 "_law_function" = true) (k16 : PySem.W.keepIn K (.ref f16) = true)
    (a17 : PySem.W.nsIn K mainGlobals "_law_program" = some (some (.ref f17))) (l17 : K.lookup f17 = some ⟨oc17, od17, .func (PySem.W.fnOf "_law_program" "_law_program" (defArgs s__law_program) (defBody s__law_program) (defScope s__law_program) .none kV17 dc17 pm17 an17 cd17 ct17), sl17⟩) (c17 : PySem.W.codeIn K cd17 "_law_program" = true) (k17 : PySem.W.keepIn K (.ref f17) = true)
    (a18 : PySem.W.nsIn K mainGlobals "_law_more_entries" = some (some (.ref f18))) (l18 : K.lookup f18 = some ⟨oc18, od18, .func (PySem.W.fnOf "_law_more_entries" "_law_more_entries" (defArgs s__law_more_entries) (defBody s__law_more_entries) (defScope s__law_more_entries) .none kV18 dc18 pm18 an18 cd18 ct18), sl18⟩) (c18 : PySem.W.codeIn K cd18 "_law_more_entries" = true) (k18 : PySem.W.keepIn K (.ref f18) = true)
    (a19 : PySem.W.nsIn K mainGlobals "_law_told_right" = some (some (.ref f19))) (l19 : K.lookup f19 = some ⟨oc19, od19, .func (PySem.W.fnOf "_law_told_right" "_law_told_right" (defArgs s__law_told_right) (defBody s__law_told_right) (defScope s__law_told_right) .none kV19 dc19 pm19 an19 cd19 ct19), sl19⟩) (c19 : PySem.W.codeIn K cd19 "_law_told_right" = true) (k19 : PySem.W.keepIn K (.ref f19) = true)
    (a20 : PySem.W.nsIn K mainGlobals "law" = some (some (.ref f20))) (l20 : K.lookup f20 = some ⟨oc20, od20, .func (PySem.W.fnOf "law" "law" (defArgs s_law) (defBody s_law) (defScope s_law) .none kV20 dc20 pm20 an20 cd20 ct20), sl20⟩) (c20 : PySem.W.codeIn K cd20 "law" = true) (k20 : PySem.W.keepIn K (.ref f20) = true)
    (z_int : PySem.W.nsIn K mainGlobals "int" = some none) (z_len : PySem.W.nsIn K mainGlobals "len" = some none) (z_abs : PySem.W.nsIn K mainGlobals "abs" = some none) (z_isinstance : PySem.W.nsIn K mainGlobals "isinstance" = some none) (z_list : PySem.W.nsIn K mainGlobals "list" = some none) (z_min : PySem.W.nsIn K mainGlobals "min" = some none) (z_range : PySem.W.nsIn K mainGlobals "range" = some none) (z_tuple : PySem.W.nsIn K mainGlobals "tuple" = some none) :
    ∃ fd : FuncData, (∀ (s : Shared) (v : Value), BindsTo s fd ⟨[v], []⟩ [("_law_script", v)]) ∧ ∀ base : Heap, K.In base → base.Ns mainGlobals mg → FnOk l.prog w K mg base CX0 31 fa fd ["_law_script"] (spLaw K) := by
  have e := hfa.symm.trans (PySem.W.mg_of X G a20)
  cases e
  have T : Tx mg := { z_int := PySem.W.mg_none_of X G z_int, z_len := PySem.W.mg_none_of X G z_len, z_abs := PySem.W.mg_none_of X G z_abs, z_isinstance := PySem.W.mg_none_of X G z_isinstance, z_list := PySem.W.mg_none_of X G z_list, z_min := PySem.W.mg_none_of X G z_min, z_range := PySem.W.mg_none_of X G z_range, z_tuple := PySem.W.mg_none_of X G z_tuple }
  have F0 := fun_mk (st := s_entries_of) l0 c0 k0
  have m0 := PySem.W.mg_of X G a0
  have F1 := fun_mk (st := s_declared) l1 c1 k1
  have m1 := PySem.W.mg_of X G a1
  have F2 := fun_mk (st := s__law_begin) l2 c2 k2
  have m2 := PySem.W.mg_of X G a2
  have F3 := fun_mk (st := s__law_draw) l3 c3 k3
  have m3 := PySem.W.mg_of X G a3
  have F4 := fun_mk (st := s__law_pick) l4 c4 k4
  have m4 := PySem.W.mg_of X G a4
  have F5 := fun_mk (st := s__law_pop) l5 c5 k5
  have m5 := PySem.W.mg_of X G a5
  have F6 := fun_mk (st := s__law_rare) l6 c6 k6
  have m6 := PySem.W.mg_of X G a6
  have F7 := fun_mk (st := s__law_pool) l7 c7 k7
  have m7 := PySem.W.mg_of X G a7
  have F8 := fun_mk (st := s__law_leaf) l8 c8 k8
  have m8 := PySem.W.mg_of X G a8
  have F9 := fun_mk (st := s__law_expr) l9 c9 k9
  have m9 := PySem.W.mg_of X G a9
  have F10 := fun_mk (st := s__law_relation) l10 c10 k10
  have m10 := PySem.W.mg_of X G a10
  have F11 := fun_mk (st := s__law_block) l11 c11 k11
  have m11 := PySem.W.mg_of X G a11
  have F12 := fun_mk (st := s__law_loop) l12 c12 k12
  have m12 := PySem.W.mg_of X G a12
  have F13 := fun_mk (st := s__law_statement) l13 c13 k13
  have m13 := PySem.W.mg_of X G a13
  have F14 := fun_mk (st := s__law_reference) l14 c14 k14
  have m14 := PySem.W.mg_of X G a14
  have F15 := fun_mk (st := s__law_external) l15 c15 k15
  have m15 := PySem.W.mg_of X G a15
  have F16 := fun_mk (st := s__law_function) l16 c16 k16
  have m16 := PySem.W.mg_of X G a16
  have F17 := fun_mk (st := s__law_program) l17 c17 k17
  have m17 := PySem.W.mg_of X G a17
  have F18 := fun_mk (st := s__law_more_entries) l18 c18 k18
  have m18 := PySem.W.mg_of X G a18
  have F19 := fun_mk (st := s__law_told_right) l19 c19 k19
  have m19 := PySem.W.mg_of X G a19
  have F20 := fun_mk (st := s_law) l20 c20 k20
  have m20 := PySem.W.mg_of X G a20
  refine ⟨PySem.W.fnOf "law" "law" (defArgs s_law) (defBody s_law) (defScope s_law) .none kV20 dc20 pm20 an20 cd20 ct20, fun s v => .of_eq rfl, fun base _ _ => ?_⟩
  have c_entries_of := cal_of (N := []) m0 F0 (fun _ _ _ _ _ _ us hl => match us, hl with | [_], _ => rfl) (ok_entries_of (P := l.prog) (w := w) (base := base) F0 T)
  have c_declared := cal_of (N := []) m1 F1 (fun _ _ _ _ _ _ us hl => match us, hl with | [_, _], _ => rfl) (ok_declared (P := l.prog) (w := w) (base := base) F1 T)
  have c__law_begin := cal_of (N := []) m2 F2 (fun _ _ _ _ _ _ us hl => match us, hl with | [_], _ => rfl) (ok_begin (P := l.prog) (w := w) (base := base) F2 T.toTDraw)
  have c__law_draw := cal_of (N := []) m3 F3 (fun _ _ _ _ _ _ us hl => match us, hl with | [_, _], _ => rfl) (ok_draw (P := l.prog) (w := w) (base := base) F3 T.toTDraw)
  have c__law_pick := cal_of (N := []) m4 F4 (fun _ _ _ _ _ _ us hl => match us, hl with | [_, _], _ => rfl) (ok_pick (P := l.prog) (w := w) (base := base) F4 c__law_draw T)
  have c__law_pop := cal_of (N := []) m5 F5 (fun _ _ _ _ _ _ us hl => match us, hl with | [_, _], _ => rfl) (ok_pop (P := l.prog) (w := w) (base := base) F5 c__law_draw T)
  have c__law_rare := cal_of (N := []) m6 F6 (fun _ _ _ _ _ _ us hl => match us, hl with | [_, _], _ => rfl) (ok_rare (P := l.prog) (w := w) (base := base) F6 c__law_draw T)
  have c__law_pool := cal_of (N := []) m7 F7 (fun _ _ _ _ _ _ us hl => match us, hl with | [], _ => rfl) (ok_pool (P := l.prog) (w := w) (base := base) F7 T)
  have c__law_leaf := cal_of (N := []) m8 F8 (fun _ _ _ _ _ _ us hl => match us, hl with | [_, _, _], _ => rfl) (ok_leaf (P := l.prog) (w := w) (base := base) F8 c__law_draw c__law_pick T)
  have c__law_loop := cal_of (N := []) m12 F12 (fun _ _ _ _ _ _ us hl => match us, hl with | [_, _, _, _], _ => rfl) (ok_loop (P := l.prog) (w := w) (base := base) F12 c__law_draw c__law_pick c__law_leaf T)
  have c__law_reference := cal_of (N := []) m14 F14 (fun _ _ _ _ _ _ us hl => match us, hl with | [_, _], _ => rfl) (ok_reference (P := l.prog) (w := w) (base := base) F14 c__law_draw c__law_pick c__law_leaf T)
  have vE : FnOk l.prog w K mg base CX0 4 f9 _ ["_law_d", "_law_env", "_law_width", "_law_depth"] (spExpr 0) := F9.ok sc__law_expr (fun vs H Q E h => by obtain ⟨d, c, e, S, g, k, w, dep, _, _, _, _, _, _, _, h1, h2, _⟩ := h; omega) (fun cdv A outer s H vs Q E hr h => by obtain ⟨d, c, e, S, g, k, w, dep, _, _, _, _, _, _, _, h1, h2, _⟩ := h; omega)
  have cE0 : Cal l.prog w K mg base "_law_expr" (2 * 0 + 4) (spExpr 0) := cal_of (N := []) m9 F9 (fun _ _ _ _ _ _ us hl => match us, hl with | [_, _, _, _], _ => rfl) (vE)
  have cR0 : Cal l.prog w K mg base "_law_relation" (2 * 0 + 5) (spRel 0) := cal_of (N := []) m10 F10 (fun _ _ _ _ _ _ us hl => match us, hl with | [_, _, _], _ => rfl) (ok_relation 0 (P := l.prog) (w := w) (base := base) F10 c__law_draw c__law_pick c__law_leaf cE0 T)
  have cE1 : Cal l.prog w K mg base "_law_expr" (2 * 1 + 4) (spExpr 1) := cal_of (N := []) m9 F9 (fun _ _ _ _ _ _ us hl => match us, hl with | [_, _, _, _], _ => rfl) (ok_expr 0 (P := l.prog) (w := w) (base := base) F9 c__law_draw c__law_pick c__law_leaf cE0 cR0 T)
  have cR1 : Cal l.prog w K mg base "_law_relation" (2 * 1 + 5) (spRel 1) := cal_of (N := []) m10 F10 (fun _ _ _ _ _ _ us hl => match us, hl with | [_, _, _], _ => rfl) (ok_relation 1 (P := l.prog) (w := w) (base := base) F10 c__law_draw c__law_pick c__law_leaf cE1 T)
  have cE2 : Cal l.prog w K mg base "_law_expr" (2 * 2 + 4) (spExpr 2) := cal_of (N := []) m9 F9 (fun _ _ _ _ _ _ us hl => match us, hl with | [_, _, _, _], _ => rfl) (ok_expr 1 (P := l.prog) (w := w) (base := base) F9 c__law_draw c__law_pick c__law_leaf cE1 cR1 T)
  have cR2 : Cal l.prog w K mg base "_law_relation" (2 * 2 + 5) (spRel 2) := cal_of (N := []) m10 F10 (fun _ _ _ _ _ _ us hl => match us, hl with | [_, _, _], _ => rfl) (ok_relation 2 (P := l.prog) (w := w) (base := base) F10 c__law_draw c__law_pick c__law_leaf cE2 T)
  have cE3 : Cal l.prog w K mg base "_law_expr" (2 * 3 + 4) (spExpr 3) := cal_of (N := []) m9 F9 (fun _ _ _ _ _ _ us hl => match us, hl with | [_, _, _, _], _ => rfl) (ok_expr 2 (P := l.prog) (w := w) (base := base) F9 c__law_draw c__law_pick c__law_leaf cE2 cR2 T)
  have cR3 : Cal l.prog w K mg base "_law_relation" (2 * 3 + 5) (spRel 3) := cal_of (N := []) m10 F10 (fun _ _ _ _ _ _ us hl => match us, hl with | [_, _, _], _ => rfl) (ok_relation 3 (P := l.prog) (w := w) (base := base) F10 c__law_draw c__law_pick c__law_leaf cE3 T)
  have vS : FnOk l.prog w K mg base CX0 12 f13 _ ["_law_d", "_law_env", "_law_depth"] (spStmt 0) := F13.ok sc__law_statement (fun vs H Q E h => by obtain ⟨d, c, e, S, g, k, dep, _, _, _, _, _, _, _, _, h1, h2, _⟩ := h; omega) (fun cdv A outer s H vs Q E hr h => by obtain ⟨d, c, e, S, g, k, dep, _, _, _, _, _, _, _, _, h1, h2, _⟩ := h; omega)
  have cS0 : Cal l.prog w K mg base "_law_statement" (2 * 0 + 12) (spStmt 0) := cal_of (N := []) m13 F13 (fun _ _ _ _ _ _ us hl => match us, hl with | [_, _, _], _ => rfl) (vS)
  have cB0 : Cal l.prog w K mg base "_law_block" (2 * 0 + 13) (spBlock 0) := cal_of (N := []) m11 F11 (fun _ _ _ _ _ _ us hl => match us, hl with | [_, _, _, _], _ => rfl) (ok_block 0 (P := l.prog) (w := w) (base := base) F11 cS0 T)
  have cS1 : Cal l.prog w K mg base "_law_statement" (2 * 1 + 12) (spStmt 1) := cal_of (N := []) m13 F13 (fun _ _ _ _ _ _ us hl => match us, hl with | [_, _, _], _ => rfl) (ok_statement 0 (P := l.prog) (w := w) (base := base) F13 c__law_draw c__law_pick c__law_leaf cE3 cR3 c__law_loop c__law_reference cB0 T)
  have cB1 : Cal l.prog w K mg base "_law_block" (2 * 1 + 13) (spBlock 1) := cal_of (N := []) m11 F11 (fun _ _ _ _ _ _ us hl => match us, hl with | [_, _, _, _], _ => rfl) (ok_block 1 (P := l.prog) (w := w) (base := base) F11 cS1 T)
  have cS2 : Cal l.prog w K mg base "_law_statement" (2 * 2 + 12) (spStmt 2) := cal_of (N := []) m13 F13 (fun _ _ _ _ _ _ us hl => match us, hl with | [_, _, _], _ => rfl) (ok_statement 1 (P := l.prog) (w := w) (base := base) F13 c__law_draw c__law_pick c__law_leaf cE3 cR3 c__law_loop c__law_reference cB1 T)
  have cB2 : Cal l.prog w K mg base "_law_block" (2 * 2 + 13) (spBlock 2) := cal_of (N := []) m11 F11 (fun _ _ _ _ _ _ us hl => match us, hl with | [_, _, _, _], _ => rfl) (ok_block 2 (P := l.prog) (w := w) (base := base) F11 cS2 T)
  have cS3 : Cal l.prog w K mg base "_law_statement" (2 * 3 + 12) (spStmt 3) := cal_of (N := []) m13 F13 (fun _ _ _ _ _ _ us hl => match us, hl with | [_, _, _], _ => rfl) (ok_statement 2 (P := l.prog) (w := w) (base := base) F13 c__law_draw c__law_pick c__law_leaf cE3 cR3 c__law_loop c__law_reference cB2 T)
  have cB3 : Cal l.prog w K mg base "_law_block" (2 * 3 + 13) (spBlock 3) := cal_of (N := []) m11 F11 (fun _ _ _ _ _ _ us hl => match us, hl with | [_, _, _, _], _ => rfl) (ok_block 3 (P := l.prog) (w := w) (base := base) F11 cS3 T)
  have c__law_external : Cal l.prog w K mg base "_law_external" 12 spExt := cal_of (N := []) m15 F15 (fun _ _ _ _ _ _ us hl => match us, hl with | [_, _], _ => rfl) (ok_external (P := l.prog) (w := w) (base := base) F15 c__law_draw c__law_pop c__law_leaf cR3 T)
  have c__law_function : Cal l.prog w K mg base "_law_function" 20 spFunc := cal_of (N := []) m16 F16 (fun _ _ _ _ _ _ us hl => match us, hl with | [_, _, _, _, _, _, _], _ => rfl) (ok_function (P := l.prog) (w := w) (base := base) F16 c__law_draw c__law_pick c__law_pop cE3 c__law_loop cB3 T)
  have c__law_program : Cal l.prog w K mg base "_law_program" 21 spProg := cal_of (N := []) m17 F17 (fun _ _ _ _ _ _ us hl => match us, hl with | [_, _], _ => rfl) (ok_program (P := l.prog) (w := w) (base := base) F17 c__law_draw c__law_pop c__law_rare c__law_pool c__law_external c__law_function T)
  have c__law_more_entries : Cal l.prog w K mg base "_law_more_entries" 2 spMore := cal_of (N := []) m18 F18 (fun _ _ _ _ _ _ us hl => match us, hl with | [_, _], _ => rfl) (ok_more_entries (P := l.prog) (w := w) (base := base) F18 c__law_draw T)
  have c__law_told_right : Cal l.prog w K mg base "_law_told_right" 2 spRight := cal_of (N := []) m19 F19 (fun _ _ _ _ _ _ us hl => match us, hl with | [_], _ => rfl) (ok_told_right (P := l.prog) (w := w) (base := base) F19 c_entries_of c_declared T)
  exact ok_law F20 c__law_begin c__law_draw 21 (by decide) c__law_program c__law_more_entries c_entries_of c__law_told_right T
theorem walk {l : PySem.W.OpenLaw} {q : Program} {loose : List Str} {XP : (Str → Option Value) → Heap → Prop} {YP : World → Heap → Prop} {d : DefRec} {K : Params → PySem.W.Frag} (hn : l.most = some 63) (hdf : d.params.defaults = [])
    (hY : ∀ (w : World) (h : Heap), YP w h → (K w.params).In h)
    (F : ∀ (w : World) (mg : Str → Option Value) (fa : Addr) (h : Heap), (K w.params).In h → h.Ns mainGlobals mg → mg d.name = some (.ref fa) →
      ∃ fd : FuncData, (∀ (s : Shared) (u : Value), BindsTo s fd ⟨[u], []⟩ [("_law_script", u)]) ∧ ∀ base : Heap, (K w.params).In base → base.Ns mainGlobals mg → FnOk l.prog w (K w.params) mg base CX0 31 fa fd ["_law_script"] (spLaw (K w.params))) :
    PySem.W.WalkO q loose XP YP l.row.toRowW d [] (fun f vs => PySem.call f vs) :=
  L2.walk_of (n := 63) (k := 31) (x := "_law_script") (CX := fun _ => CX0) (sp := fun w => spLaw (K w.params)) hn (by decide) hdf ⟨rfl, by decide, by decide⟩ hY F (fun _ _ a ns hl _ hS => ⟨a, ns, rfl, hS, hl, fun _ => rfl⟩) fun _ _ _ _ _ z => z
end Zn

open PySem PySem.W PyProof.Rows in
set_option maxRecDepth 100000 in
set_option maxHeartbeats 0 in
theorem PySem.Challenge.cw_metorshut_k03_programs_declared_holds : PySem.Challenge.rw_metorshut_k03_programs_declared.Holds := by
  w_on; o_law; k_head; (case hw => w_witness2)
  k_fill
  refine Zn.walk (l := PySem.Challenge.rw_metorshut_k03_programs_declared) rfl rfl (fun w h Y => PySem.W.kIn_of Y) ?F
  case F =>
    intro w mg fa h KX G hmg
    refine' Zn.all_mk KX G hmg ?a0 ?l0 ?c0 ?k0 ?a1 ?l1 ?c1 ?k1 ?a2 ?l2 ?c2 ?k2 ?a3 ?l3 ?c3 ?k3 ?a4 ?l4 ?c4 ?k4 ?a5 ?l5 ?c5 ?k5 ?a6 ?l6 ?c6 ?k6 ?a7 ?l7 ?c7 ?k7 ?a8 ?l8 ?c8 ?k8 ?a9 ?l9 ?c9 ?k9 ?a10 ?l10 ?c10 ?k10 ?a11 ?l11 ?c11 ?k11 ?a12 ?l12 ?c12 ?k12 ?a13 ?l13 ?c13 ?k13 ?a14 ?l14 ?c14 ?k14 ?a15 ?l15 ?c15 ?k15 ?a16 ?l16 ?c16 ?k16 ?a17 ?l17 ?c17 ?k17 ?a18 ?l18 ?c18 ?k18 ?a19 ?l19 ?c19 ?k19 ?a20 ?l20 ?c20 ?k20 ?z_int ?z_len ?z_abs ?z_isinstance ?z_list ?z_min ?z_range ?z_tuple
    (case a0 => k_is)
    (case l0 => k_is)
    (case c0 => k_is)
    (case k0 => k_is)
    (case a1 => k_is)
    (case l1 => k_is)
    (case c1 => k_is)
    (case k1 => k_is)
    (case a2 => k_is)
    (case l2 => k_is)
    (case c2 => k_is)
    (case k2 => k_is)
    (case a3 => k_is)
    (case l3 => k_is)
    (case c3 => k_is)
    (case k3 => k_is)
    (case a4 => k_is)
    (case l4 => k_is)
    (case c4 => k_is)
    (case k4 => k_is)
    (case a5 => k_is)
    (case l5 => k_is)
    (case c5 => k_is)
    (case k5 => k_is)
    (case a6 => k_is)
    (case l6 => k_is)
    (case c6 => k_is)
    (case k6 => k_is)
    (case a7 => k_is)
    (case l7 => k_is)
    (case c7 => k_is)
    (case k7 => k_is)
    (case a8 => k_is)
    (case l8 => k_is)
    (case c8 => k_is)
    (case k8 => k_is)
    (case a9 => k_is)
    (case l9 => k_is)
    (case c9 => k_is)
    (case k9 => k_is)
    (case a10 => k_is)
    (case l10 => k_is)
    (case c10 => k_is)
    (case k10 => k_is)
    (case a11 => k_is)
    (case l11 => k_is)
    (case c11 => k_is)
    (case k11 => k_is)
    (case a12 => k_is)
    (case l12 => k_is)
    (case c12 => k_is)
    (case k12 => k_is)
    (case a13 => k_is)
    (case l13 => k_is)
    (case c13 => k_is)
    (case k13 => k_is)
    (case a14 => k_is)
    (case l14 => k_is)
    (case c14 => k_is)
    (case k14 => k_is)
    (case a15 => k_is)
    (case l15 => k_is)
    (case c15 => k_is)
    (case k15 => k_is)
    (case a16 => k_is)
    (case l16 => k_is)
    (case c16 => k_is)
    (case k16 => k_is)
    (case a17 => k_is)
    (case l17 => k_is)
    (case c17 => k_is)
    (case k17 => k_is)
    (case a18 => k_is)
    (case l18 => k_is)
    (case c18 => k_is)
    (case k18 => k_is)
    (case a19 => k_is)
    (case l19 => k_is)
    (case c19 => k_is)
    (case k19 => k_is)
    (case a20 => k_is)
    (case l20 => k_is)
    (case c20 => k_is)
    (case k20 => k_is)
    (case z_int => k_is)
    (case z_len => k_is)
    (case z_abs => k_is)
    (case z_isinstance => k_is)
    (case z_list => k_is)
    (case z_min => k_is)
    (case z_range => k_is)
    (case z_tuple => k_is)
#print axioms PySem.Challenge.cw_metorshut_k03_programs_declared_holds
