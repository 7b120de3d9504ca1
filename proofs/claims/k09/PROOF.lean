import PyProof.Rows.All
import Wide.All
import OpenK.AllK
import Wide.FinOn
import HandS.ForMost
import HandS.EndTab
import HandS.OwnEq
import HandS.IsInst
import HandS.Exc
import HandS.ExcInit
import HandS.ExcIs
import HandS.ExcField
import HandS.Conv
import HandS.FStr
import KE.KCallOwn
import HandS.ClsMeth
import HandS.Lambda
import HandS.WordsExc
import PyProof.NeKinds
import KE.KIsNot
import PyProof.MeetsIn
import PyProof.EqAt
import PyProof.MeetsSeq
import HandS.Property
import KE.KOwnIter
import KE.KDictIter
import PyProof.WalksMore
import HandS.IterVal
import HandS.Comp
import HandS.Star
import HandS.Style
import HandS.Text
import HandS.Wide
import HandS.ExcInitHot
import HandS.SuiteRaise
import HandS.RaiseFrom
import HandS.StrMore
import PyProof.Rows.ReprOcc
import PyProof.Rows.StrDigitsNeg
import KE.IntTextText
import KE.IntTextLaws
import HandS.Codes
import HandS.ReplaceList
import HandS.NoneIn
import HandS.More
import HandS.Defaults
import HandS.Small
import HandS.Dict
import HandS.RaiseMore
import KE.KMathGC
import HandS.Gcd
import HandS.SortKw
import HandS.Strs
import HandS.SetFor
import KE.DataMinMax
import KE.DataAny
import HandS.SortInts
import HandS.MakeKw
import HandS.MakeKwOnly
import KE.RegKTryMore
import HandS.DictSub
import HandS.Flow
import KE.RegKIsAll
import PySem.Challenge.RW_nodeadnight_k09_texts_that_are_no_length
set_option Elab.async false
set_option linter.all false
set_option maxRecDepth 100000
set_option maxHeartbeats 4000000
/-! An abstract layer: a state is what is known (kn) and a count (n); the rest of the heap (a pen, tables of code objects, what a caller had) is kept by an invariant. -/
namespace AW
open PySem PySem.Spec PyProof.Rows L2

def isMut : HO → Bool
  | .lst _ => true | .dK _ => true | .dT _ => true | .set _ _ => true | .ins _ _ _ => true
  | _ => false
def isTbl : HO → Bool
  | .tbl _ => true
  | _ => false
/-- all that kn does not know, and all that never changes, is kept -/
def Kept (kn H H' : Hp) : Prop := ∀ x o, H x = some o → (kn x = none ∨ isMut o = false) → H' x = some o

structure Cw where
  inv : Nat → Hp → Prop
  res : Addr → Prop
  live : ∀ n H x, inv n H → res x → H x ≠ none
  step : ∀ n kn H H', inv n H → (∀ x, res x → kn x = none) → Kept kn H H' → inv n H'
  up : ∀ n m H, inv n H → n ≤ m → inv m H

structure Good (c : Cw) (kn : Hp) (n : Nat) (H : Hp) : Prop where
  ex : Ext kn H
  inv : c.inv n H
  res : ∀ x, c.res x → kn x = none
  nt : ∀ x o, kn x = some o → isTbl o = false

section
variable {c : Cw} {kn kn' H H' : Hp} {n m : Nat} {q : Addr} {o : HO}
theorem Good.free (g : Good c kn n H) (h : H q = none) : kn q = none := by
  cases e : kn q with
  | none => rfl
  | some u => rw [g.ex q u e] at h; cases h
theorem Good.up (g : Good c kn n H) (h : n ≤ m) : Good c kn m H := ⟨g.ex, c.up n m H g.inv h, g.res, g.nt⟩
theorem Kept.refl : Kept kn H H := fun _ _ h _ => h
/-- a new object -/
theorem nt_upd (h : ∀ x o, kn x = some o → isTbl o = false) (ht : isTbl o = false) : ∀ x u, upd kn q o x = some u → isTbl u = false := fun x u e => by
  by_cases hx : x = q
  · rw [hx, upd_same] at e; cases e; exact ht
  · rw [upd_ne hx] at e; exact h x u e
theorem Good.new (g : Good c kn n H) (h : H q = none) (ht : isTbl o = false := by rfl) : Good c (upd kn q o) n (upd H q o) := by
  refine ⟨fun x u e => ?_, c.step n kn H _ g.inv g.res (fun x u e _ => ?_), fun x r => ?_, nt_upd g.nt ht⟩
  · by_cases hx : x = q
    · rw [hx, upd_same] at e
      rw [hx, upd_same]
      exact e
    · rw [upd_ne hx] at e
      rw [upd_ne hx]
      exact g.ex x u e
  · rw [upd_ne (ne_of_none e h)]
    exact e
  · rw [upd_ne (fun z => c.live n H x g.inv r (by rw [z]; exact h))]
    exact g.res x r
/-- a known object is changed -/
theorem Good.put {u : HO} (g : Good c kn n H) (h : kn q = some u) (hm : isMut u = true) (ht : isTbl o = false := by rfl) : Good c (upd kn q o) n (upd H q o) := by
  refine ⟨fun x v e => ?_, c.step n kn H _ g.inv g.res (fun x v e k => ?_), fun x r => ?_, nt_upd g.nt ht⟩
  · by_cases hx : x = q
    · rw [hx, upd_same] at e
      rw [hx, upd_same]
      exact e
    · rw [upd_ne hx] at e
      rw [upd_ne hx]
      exact g.ex x v e
  · have hx : x ≠ q := fun z => by
      subst z
      have e2 := g.ex x u h
      rw [e] at e2
      cases e2
      rcases k with k | k
      · rw [h] at k; cases k
      · rw [hm] at k; cases k
    rw [upd_ne hx]
    exact e
  · rw [upd_ne (fun z => by subst z; have := g.res x r; rw [h] at this; cases this)]
    exact g.res x r
/-- the rest is only made longer -/
theorem Good.ext (g : Good c kn n H) (e : Ext H H') : Good c kn n H' :=
  ⟨fun x o h => e x o (g.ex x o h), c.step n kn H _ g.inv g.res fun x o h _ => e x o h, g.res, g.nt⟩
theorem know {a : Addr} {u : HO} (h : kn q = none) (e : kn a = some u) : upd kn q o a = some u := by
  rw [upd_ne (ne_of_none e h)]
  exact e
theorem free_upd {a : Addr} (h : kn q = none) (e : upd kn a o q = none) : True := trivial
theorem Ext.know {a : Addr} {u : HO} (x : Ext kn kn') (e : kn a = some u) : kn' a = some u := x a u e
end

/-- the abstract wish -/
def W {α : Type} (c : Cw) (t : Hp → (α → Hp → Prop) → Prop) (kn : Hp) (n : Nat) (Q : α → Hp → Nat → Prop) : Prop :=
  ∀ H, Good c kn n H → ∀ Q' : α → Hp → Prop, (∀ v kn' n' H', Q v kn' n' → Good c kn' n' H' → Q' v H') → t H Q'
structure AE where
  nx : L2.St → Hp → Nat → Prop
  rt : V → Hp → Nat → Prop
  bk : L2.St → Hp → Nat → Prop := fun _ _ _ => False
  ct : L2.St → Hp → Nat → Prop := fun _ _ _ => False
/-- an end is served by another -/
structure Fits (c : Cw) (D : AE) (D' : Ends) : Prop where
  nx : ∀ σ kn n H, D.nx σ kn n → Good c kn n H → D'.nx σ H
  rt : ∀ v kn n H, D.rt v kn n → Good c kn n H → D'.rt v H
  bk : ∀ σ kn n H, D.bk σ kn n → Good c kn n H → D'.bk σ H
  ct : ∀ σ kn n H, D.ct σ kn n → Good c kn n H → D'.ct σ H
def WS (c : Cw) (ts : TS) (D : AE) (σ : L2.St) (kn : Hp) (n : Nat) : Prop := ∀ H, Good c kn n H → ∀ D' : Ends, Fits c D D' → ts D' σ H

section
variable {c : Cw} {kn : Hp} {n : Nat} {σ : L2.St} {K : PySem.W.Frag}
theorem W.mono {α : Type} {t : Hp → (α → Hp → Prop) → Prop} {Q R : α → Hp → Nat → Prop} (h : W c t kn n Q) (k : ∀ v kn' n', Q v kn' n' → R v kn' n') : W c t kn n R :=
  fun H g Q' q => h H g Q' fun v kn' n' H' e => q v kn' n' H' (k v kn' n' e)

/-! ### expressions -/
variable {Q : V → Hp → Nat → Prop} {QB : Bool → Hp → Nat → Prop} {QA : List V → Hp → Nat → Prop} {QO : Option Int → Hp → Nat → Prop}
theorem w_var {i : Nat} {v : V} (h : σ[i]? = some (some v)) (q : Q v kn n) : W c (tVar i σ) kn n Q := fun H g _ k => ⟨v, h, k v kn n H q g⟩
theorem w_c {v : V} (q : Q v kn n) : W c (tC v σ) kn n Q := fun H g _ k => k v kn n H q g
theorem w_op {r : R2} {ta tb : TE} (h : W c (ta σ) kn n fun x kn1 n1 => W c (tb σ) kn1 n1 fun y kn2 n2 => W c (r x y) kn2 n2 Q) : W c (tOp r ta tb σ) kn n Q :=
  fun H g Q' q => h H g _ fun x kn1 n1 H1 h1 g1 => h1 H1 g1 _ fun y kn2 n2 H2 h2 g2 => h2 H2 g2 Q' q
theorem w_un {r : V → Hp → VK → Prop} {ta : TE} (h : W c (ta σ) kn n fun x kn1 n1 => W c (r x) kn1 n1 Q) : W c (tUn r ta σ) kn n Q :=
  fun H g Q' q => h H g _ fun x kn1 n1 H1 h1 g1 => h1 H1 g1 Q' q
theorem r_I0 {f : Int → Int → V} {i j : Int} (q : Q (f i j) kn n) : W c (rI0 f (.int i) (.int j)) kn n Q := fun H g _ k => ⟨i, j, rfl, rfl, k _ kn n H q g⟩
theorem r_I {C : Int → Int → Prop} {f : Int → Int → V} {i j : Int} (hc : C i j) (q : Q (f i j) kn n) : W c (rI C f (.int i) (.int j)) kn n Q := fun H g _ k => ⟨i, j, rfl, rfl, hc, k _ kn n H q g⟩
theorem r_U {f : Int → V} {i : Int} (q : Q (f i) kn n) : W c (rU f (.int i)) kn n Q := fun H g _ k => ⟨i, rfl, k _ kn n H q g⟩
theorem r_eq {x y : V} (h : scal x y = true) (q : Q (.bl (decide (x = y))) kn n) : W c (rEq x y) kn n Q := fun H g _ k => ⟨h, k _ kn n H q g⟩
theorem r_ne {x y : V} (h : scal x y = true) (q : Q (.bl (!decide (x = y))) kn n) : W c (rNe x y) kn n Q := fun H g _ k => ⟨h, k _ kn n H q g⟩
theorem sql {a : Addr} {xs : List V} {H : Hp} (h : H a = some (.lst xs)) : SqL K H a xs := .inl (.inl h)
theorem sqt {a : Addr} {xs : List V} {H : Hp} (h : H a = some (.tup xs)) : SqT K H a xs := .inl (.inl h)
theorem r_ixL {p : Addr} {xs : List V} {i : Int} {v : V} (h : kn p = some (.lst xs)) (e : atI xs i = some v) (q : Q v kn n) : W c (rIxL K (.ref p) (.int i)) kn n Q :=
  fun H g _ k => ⟨p, xs, i, v, rfl, rfl, sql (g.ex _ _ h), e, k _ kn n H q g⟩
theorem r_ixT {p : Addr} {xs : List V} {i : Int} {v : V} (h : kn p = some (.tup xs)) (e : atI xs i = some v) (q : Q v kn n) : W c (rIxT K (.ref p) (.int i)) kn n Q :=
  fun H g _ k => ⟨p, xs, i, v, rfl, rfl, sqt (g.ex _ _ h), e, k _ kn n H q g⟩
theorem w_nil (q : QA [] kn n) : W c (tNil σ) kn n QA := fun H g _ k => k _ kn n H q g
theorem w_cons {ta : TE} {tr : TA} (h : W c (ta σ) kn n fun x kn1 n1 => W c (tr σ) kn1 n1 fun xs kn2 n2 => QA (x :: xs) kn2 n2) : W c (tCons ta tr σ) kn n QA :=
  fun H g Q' q => h H g _ fun x kn1 n1 H1 h1 g1 => h1 H1 g1 _ fun xs kn2 n2 H2 h2 g2 => q _ kn2 n2 H2 h2 g2
theorem w_tup {t : TA} (h : W c (t σ) kn n fun xs kn1 n1 => xs.length ≤ 1000 ∧ ∀ q, kn1 q = none → Q (.ref q) (upd kn1 q (.tup xs)) n1) : W c (tTup t σ) kn n Q :=
  fun H g Q' q => h H g _ fun xs kn1 n1 H1 h1 g1 => ⟨Nat.le_trans h1.1 (by decide), fun p hp => q _ _ _ _ (h1.2 p (g1.free hp)) (g1.new hp)⟩
theorem w_lst {t : TA} (h : W c (t σ) kn n fun xs kn1 n1 => xs.length ≤ 1000 ∧ ∀ q, kn1 q = none → Q (.ref q) (upd kn1 q (.lst xs)) n1) : W c (tLst t σ) kn n Q :=
  fun H g Q' q => h H g _ fun xs kn1 n1 H1 h1 g1 => ⟨Nat.le_trans h1.1 (by decide), fun p hp => q _ _ _ _ (h1.2 p (g1.free hp)) (g1.new hp)⟩
theorem w_cb {r : List V → Hp → VK → Prop} {t : TA} (h : W c (t σ) kn n fun xs kn1 n1 => W c (r xs) kn1 n1 Q) : W c (tCB r t σ) kn n Q :=
  fun H g Q' q => h H g _ fun xs kn1 n1 H1 h1 g1 => h1 H1 g1 Q' q
theorem w_ifE {t : TT} {ta tb : TE} (h : W c (t σ) kn n fun b kn1 n1 => (b = true → W c (ta σ) kn1 n1 Q) ∧ (b = false → W c (tb σ) kn1 n1 Q)) : W c (tIf t ta tb σ) kn n Q :=
  fun H g Q' q => h H g _ fun b kn1 n1 H1 h1 g1 => by
    cases b with
    | true => exact iteT (h1.1 rfl H1 g1 Q' q)
    | false => exact iteF (h1.2 rfl H1 g1 Q' q)
theorem w_andV {ta tb : TE} (h : W c (ta σ) kn n fun x kn1 n1 => ∃ b, x = .bl b ∧ (b = true → W c (tb σ) kn1 n1 Q) ∧ (b = false → Q (.bl false) kn1 n1)) : W c (tAndV ta tb σ) kn n Q :=
  fun H g Q' q => h H g _ fun x kn1 n1 H1 h1 g1 => by
    obtain ⟨b, e, h2, h3⟩ := h1
    refine ⟨b, e, ?_⟩
    cases b with
    | true => exact iteT (h2 rfl H1 g1 Q' q)
    | false => exact iteF (q _ _ _ _ (h3 rfl) g1)
theorem w_orV {ta tb : TE} (h : W c (ta σ) kn n fun x kn1 n1 => ∃ b, x = .bl b ∧ (b = false → W c (tb σ) kn1 n1 Q) ∧ (b = true → Q (.bl true) kn1 n1)) : W c (tOrV ta tb σ) kn n Q :=
  fun H g Q' q => h H g _ fun x kn1 n1 H1 h1 g1 => by
    obtain ⟨b, e, h2, h3⟩ := h1
    refine ⟨b, e, ?_⟩
    cases b with
    | true => exact iteT (q _ _ _ _ (h3 rfl) g1)
    | false => exact iteF (h2 rfl H1 g1 Q' q)
theorem w_notV {ta : TE} (h : W c (ta σ) kn n fun x kn1 n1 => ∃ b, x = .bl b ∧ Q (.bl (!b)) kn1 n1) : W c (tNotV ta σ) kn n Q :=
  fun H g Q' q => h H g _ fun x kn1 n1 H1 h1 g1 => by
    obtain ⟨b, e, h2⟩ := h1
    exact ⟨b, e, q _ _ _ _ h2 g1⟩

/-! ### tests -/
theorem w_test {t : TE} (h : W c (t σ) kn n fun x kn1 n1 => ∃ b, x = .bl b ∧ QB b kn1 n1) : W c (tTest t σ) kn n QB :=
  fun H g Q' q => h H g _ fun x kn1 n1 H1 h1 g1 => by
    obtain ⟨b, e, h2⟩ := h1
    exact ⟨b, e, q _ _ _ _ h2 g1⟩
theorem w_B {t : TE} (h : W c (t σ) kn n fun x kn1 n1 => ∃ b, x = .bl b ∧ QB b kn1 n1) : W c (tB t σ) kn n QB :=
  fun H g Q' q => h H g _ fun x kn1 n1 H1 h1 g1 => by
    obtain ⟨b, e, h2⟩ := h1
    exact ⟨b, e, q _ _ _ _ h2 g1⟩
theorem w_and {t u : TT} (h : W c (t σ) kn n fun b kn1 n1 => (b = true → W c (u σ) kn1 n1 QB) ∧ (b = false → QB false kn1 n1)) : W c (tAnd t u σ) kn n QB :=
  fun H g Q' q => h H g _ fun b kn1 n1 H1 h1 g1 => by
    cases b with
    | true => exact iteT (h1.1 rfl H1 g1 Q' q)
    | false => exact iteF (q _ _ _ _ (h1.2 rfl) g1)
theorem w_or {t u : TT} (h : W c (t σ) kn n fun b kn1 n1 => (b = false → W c (u σ) kn1 n1 QB) ∧ (b = true → QB true kn1 n1)) : W c (tOr t u σ) kn n QB :=
  fun H g Q' q => h H g _ fun b kn1 n1 H1 h1 g1 => by
    cases b with
    | true => exact iteT (q _ _ _ _ (h1.2 rfl) g1)
    | false => exact iteF (h1.1 rfl H1 g1 Q' q)
theorem w_not {t : TT} (h : W c (t σ) kn n fun b kn1 n1 => QB (!b) kn1 n1) : W c (tNot t σ) kn n QB :=
  fun H g Q' q => h H g _ fun b kn1 n1 H1 h1 g1 => q _ _ _ _ h1 g1

/-! ### slices -/
theorem w_noPart (q : QO none kn n) : W c (tNoPart σ) kn n QO := fun H g _ k => k _ kn n H q g
theorem w_part {t : TE} (h : W c (t σ) kn n fun x kn1 n1 => ∃ i, x = .int i ∧ QO (some i) kn1 n1) : W c (tPart t σ) kn n QO :=
  fun H g Q' q => h H g _ fun x kn1 n1 H1 h1 g1 => by
    obtain ⟨i, e, h2⟩ := h1
    exact ⟨i, e, q _ _ _ _ h2 g1⟩
theorem w_sl {r : V → Option Int → Option Int → Hp → VK → Prop} {te : TE} {tl th : TO}
    (h : W c (te σ) kn n fun x kn1 n1 => W c (tl σ) kn1 n1 fun l kn2 n2 => W c (th σ) kn2 n2 fun u kn3 n3 => W c (r x l u) kn3 n3 Q) : W c (tSl r te tl th σ) kn n Q :=
  fun H g Q' q => h H g _ fun x kn1 n1 H1 h1 g1 => h1 H1 g1 _ fun l kn2 n2 H2 h2 g2 => h2 H2 g2 _ fun u kn3 n3 H3 h3 g3 => h3 H3 g3 Q' q
theorem r_slL {p : Addr} {xs : List V} {lo hi : Option Int} (h : kn p = some (.lst xs)) (q : ∀ l, kn l = none → Q (.ref l) (upd kn l (.lst (cutV xs lo hi))) n) : W c (rSlL K (.ref p) lo hi) kn n Q :=
  fun H g _ k => ⟨p, xs, rfl, sql (g.ex _ _ h), fun l hl => k _ _ _ _ (q l (g.free hl)) (g.new hl)⟩

/-! ### fields, objects -/
theorem w_fld {ta : TE} {f : Str} (h : W c (ta σ) kn n fun x kn1 n1 => ∃ a C dx fs v, x = .ref a ∧ kn1 a = some (.ins C dx fs) ∧ Cls K C ∧ NoAttr K C f ∧ fs.lookup f = some v ∧ Q v kn1 n1) : W c (tFld K ta f σ) kn n Q :=
  fun H g Q' q => h H g _ fun x kn1 n1 H1 h1 g1 => by
    obtain ⟨a, C, dx, fs, v, e, h2, hc, hn, hl, h3⟩ := h1
    exact ⟨a, C, dx, fs, v, e, g1.ex _ _ h2, hc, hn, hl, q _ _ _ _ h3 g1⟩

/-! ### statements -/
variable {D : AE}
theorem s_next (q : D.nx σ kn n) : WS c tNext D σ kn n := fun H g D' f => f.nx σ kn n H q g
theorem s_seq {t u : TS} (h : WS c t { D with nx := fun σ1 kn1 n1 => WS c u D σ1 kn1 n1 } σ kn n) : WS c (tSeq t u) D σ kn n :=
  fun H g D' f => h H g { D' with nx := u D' } ⟨fun σ1 kn1 n1 H1 h1 g1 => h1 H1 g1 D' f, f.rt, f.bk, f.ct⟩
theorem s_ret {te : TE} (h : W c (te σ) kn n D.rt) : WS c (tRet te) D σ kn n := fun H g D' f => h H g D'.rt fun v kn1 n1 H1 h1 g1 => f.rt v kn1 n1 H1 h1 g1
theorem s_retN (h : D.rt .non kn n) : WS c tRetN D σ kn n := fun H g D' f => f.rt _ kn n H h g
theorem s_drop {te : TE} (h : W c (te σ) kn n fun _ kn1 n1 => D.nx σ kn1 n1) : WS c (tDrop te) D σ kn n := fun H g D' f => h H g _ fun v kn1 n1 H1 h1 g1 => f.nx σ kn1 n1 H1 h1 g1
theorem s_brk (h : D.bk σ kn n) : WS c tBreak D σ kn n := fun H g D' f => f.bk σ kn n H h g
theorem s_cont (h : D.ct σ kn n) : WS c tCont D σ kn n := fun H g D' f => f.ct σ kn n H h g
theorem s_if {t : TT} {u w : TS} (h : W c (t σ) kn n fun b kn1 n1 => (b = true → WS c u D σ kn1 n1) ∧ (b = false → WS c w D σ kn1 n1)) : WS c (tIfS t u w) D σ kn n :=
  fun H g D' f => h H g _ fun b kn1 n1 H1 h1 g1 => by
    cases b with
    | true => exact iteT (h1.1 rfl H1 g1 D' f)
    | false => exact iteF (h1.2 rfl H1 g1 D' f)
/-- targets -/
def WG (c : Cw) (gt : TG) (v : V) (σ : L2.St) (kn : Hp) (n : Nat) (N : L2.St → Hp → Nat → Prop) : Prop :=
  ∀ H, Good c kn n H → ∀ N' : L2.St → Hp → Prop, (∀ σ1 kn1 n1 H1, N σ1 kn1 n1 → Good c kn1 n1 H1 → N' σ1 H1) → gt v σ H N'
theorem g_name {i : Nat} {v : V} {N : L2.St → Hp → Nat → Prop} (h : N (σ.set i (some v)) kn n) : WG c (gName i) v σ kn n N := fun H g N' f => f _ kn n H h g
def WGs (c : Cw) (gt : TGs) (vs : List V) (σ : L2.St) (kn : Hp) (n : Nat) (N : L2.St → Hp → Nat → Prop) : Prop :=
  ∀ H, Good c kn n H → ∀ N' : L2.St → Hp → Prop, (∀ σ1 kn1 n1 H1, N σ1 kn1 n1 → Good c kn1 n1 H1 → N' σ1 H1) → gt vs σ H N'
theorem g_nil {N : L2.St → Hp → Nat → Prop} (h : N σ kn n) : WGs c gNil [] σ kn n N := fun H g N' f => ⟨rfl, f _ kn n H h g⟩
theorem g_cons {t : TG} {u : TGs} {v : V} {r : List V} {N : L2.St → Hp → Nat → Prop} (h : WG c t v σ kn n fun σ1 kn1 n1 => WGs c u r σ1 kn1 n1 N) : WGs c (gCons t u) (v :: r) σ kn n N :=
  fun H g N' f => ⟨v, r, rfl, h H g _ fun σ1 kn1 n1 H1 h1 g1 => h1 H1 g1 N' f⟩
theorem g_tup {k : Nat} {t : TGs} {a : Addr} {xs : List V} {N : L2.St → Hp → Nat → Prop} (h : kn a = some (.tup xs)) (hl : xs.length = k) (q : WGs c t xs σ kn n N) : WG c (gTup K k t) (.ref a) σ kn n N :=
  fun H g N' f => ⟨a, xs, rfl, sqt (g.ex _ _ h), hl, q H g N' f⟩
theorem s_asg {te : TE} {gt : TG} (h : W c (te σ) kn n fun v kn1 n1 => WG c gt v σ kn1 n1 D.nx) : WS c (tAsg te gt) D σ kn n :=
  fun H g D' f => h H g _ fun v kn1 n1 H1 h1 g1 => h1 H1 g1 D'.nx fun σ2 kn2 n2 H2 h2 g2 => f.nx σ2 kn2 n2 H2 h2 g2
theorem s_set {te : TE} {i : Nat} (h : W c (te σ) kn n fun v kn1 n1 => D.nx (σ.set i (some v)) kn1 n1) : WS c (tAsg te (gName i)) D σ kn n :=
  s_asg (h.mono fun _ _ _ q => g_name q)
theorem s_par {i j : Nat} {ta : TA} (h : W c (ta σ) kn n fun vs kn1 n1 => ∃ v w, vs = [v, w] ∧ D.nx ((σ.set i (some v)).set j (some w)) kn1 n1) : WS c (tPar i j ta) D σ kn n :=
  fun H g D' f => h H g _ fun vs kn1 n1 H1 h1 g1 => by
    obtain ⟨v, w, e, h2⟩ := h1
    exact ⟨v, w, e, f.nx _ _ _ _ h2 g1⟩
theorem g_set {to ti : TE} {v : V} {N : L2.St → Hp → Nat → Prop}
    (h : W c (to σ) kn n fun o kn1 n1 => W c (ti σ) kn1 n1 fun i kn2 n2 => ∃ p xs k j, o = .ref p ∧ i = .int k ∧ kn2 p = some (.lst xs) ∧ ixN xs.length k = some j ∧ N σ (upd kn2 p (.lst (xs.set j v))) n2) : WG c (gSub to ti rSetL) v σ kn n N :=
  fun H g N' f => h H g _ fun o kn1 n1 H1 h1 g1 => h1 H1 g1 _ fun i kn2 n2 H2 h2 g2 => by
    obtain ⟨p, xs, k, j, e1, e2, e3, e4, h3⟩ := h2
    exact ⟨p, xs, k, j, e1, e2, g2.ex _ _ e3, e4, f _ _ _ _ h3 (g2.put e3 rfl)⟩

/-! ### loops -/
theorem s_forR1 {ta : TA} {gt : TG} {tb : TS} {j : Int} (Pv : Nat → L2.St → Hp → Nat → Prop)
    (h : W c (ta σ) kn n fun vs kn1 n1 => vs = [.int j] ∧ -(2 ^ 62) ≤ j ∧ j < 2 ^ 62 ∧ Pv 0 σ kn1 n1)
    (hs : ∀ i σ' kn' n', i < j.toNat → Pv i σ' kn' n' → WG c gt (.int (i : Int)) σ' kn' n' fun σ2 kn2 n2 => WS c tb { D with nx := Pv (i + 1), ct := Pv (i + 1), bk := D.nx } σ2 kn2 n2)
    (hd : ∀ σ' kn' n', Pv j.toNat σ' kn' n' → D.nx σ' kn' n') : WS c (tFor (iRng1 ta) gt tb) D σ kn n :=
  fun H g D' f => h H g _ fun vs kn1 n1 H1 h1 g1 => by
    obtain ⟨e, b1, b2, h2⟩ := h1
    refine ⟨j, e, b1, b2, for_range (lo := 0) (n := j.toNat) (fun i σ' H' => ∃ kn' n', Pv i σ' kn' n' ∧ Good c kn' n' H') ⟨kn1, n1, h2, g1⟩ (fun i σ' H' hi p => ?_) (fun σ' H' p => ?_)⟩
    · obtain ⟨kn', n', p, g'⟩ := p
      have e0 : (0 : Int) + (i : Int) = (i : Int) := Int.zero_add _
      rw [e0]
      refine hs i σ' kn' n' hi p H' g' _ fun σ2 kn2 n2 H2 h2 g2 => h2 H2 g2 _ ⟨fun σ3 kn3 n3 H3 h3 g3 => ⟨kn3, n3, h3, g3⟩, f.rt, fun σ3 kn3 n3 H3 h3 g3 => f.nx _ _ _ _ h3 g3, fun σ3 kn3 n3 H3 h3 g3 => ⟨kn3, n3, h3, g3⟩⟩
    · obtain ⟨kn', n', p, g'⟩ := p
      exact f.nx _ _ _ _ (hd σ' kn' n' p) g'
end
end AW

namespace AW
open PySem PySem.Spec PyProof.Rows L2 LamX

/-! ### contexts: a def without a pen -/
/-- all that the caller had, but what kn0 knows and may change -/
def pureC (kn0 H0 : Hp) : Cw where
  inv _ H := Kept kn0 H0 H
  res x := H0 x ≠ none ∧ kn0 x = none
  live n H x k r := by
    obtain ⟨r1, r2⟩ := r
    cases e : H0 x with
    | none => exact absurd e r1
    | some o =>
      rw [k x o e (.inl r2)]
      exact fun z => nomatch z
  step n kn H H' k r s := fun x o e h => by
    refine s x o (k x o e h) ?_
    rcases h with h | h
    · exact .inl (r x ⟨(by rw [e]; exact fun z => nomatch z), h⟩)
    · exact .inr h
  up _ _ _ h _ := h
theorem pure_start {kn H : Hp} (h : Ext kn H) (t : ∀ x o, kn x = some o → isTbl o = false) : Good (pureC kn H) kn 0 H := ⟨h, Kept.refl, fun _ r => r.2, t⟩
theorem pure_any {kn0 H0 kn H : Hp} {n m : Nat} (g : Good (pureC kn0 H0) kn n H) : Good (pureC kn0 H0) kn m H := ⟨g.ex, g.inv, g.res, g.nt⟩
/-- a state of the callee is one of the caller -/
theorem Good.back {c : Cw} {kn kn' H H' : Hp} {n m : Nat} (g : Good c kn n H) (h : Good (pureC kn H) kn' m H') : Good c kn' n H' :=
  ⟨h.ex, c.step n kn H H' g.inv g.res h.inv, fun x r => h.res x ⟨c.live n H x g.inv r, g.res x r⟩, h.nt⟩

theorem both_t {A B : Prop} (h : A) : (true = true → A) ∧ (true = false → B) := ⟨fun _ => h, fun z => Bool.noConfusion z⟩
theorem both_f {A B : Prop} (h : B) : (false = true → A) ∧ (false = false → B) := ⟨fun z => Bool.noConfusion z, fun _ => h⟩
abbrev AK := V → Hp → Prop
abbrev AXK := Value → Option Addr → Hp → Prop
/-- a promise told of what is known -/
def liftX (B : List V → Hp → AK → AXK → Prop) : Sp := fun vs H Q E => ∃ kn, Ext kn H ∧ (∀ x o, kn x = some o → isTbl o = false) ∧ B vs kn (fun v kn' => ∀ n' H', Good (pureC kn H) kn' n' H' → Q v H') (fun cls d kn' => ∀ n' H', Good (pureC kn H) kn' n' H' → E cls d H')
def MonoX (B : List V → Hp → AK → AXK → Prop) : Prop := ∀ vs kn Q R E F, (∀ v k, Q v k → R v k) → (∀ cls d k, E cls d k → F cls d k) → B vs kn Q E → B vs kn R F
abbrev noX (B : List V → Hp → AK → Prop) : List V → Hp → AK → AXK → Prop := fun vs kn Q _ => B vs kn Q
section
variable {c : Cw} {kn : Hp} {n : Nat} {σ : L2.St} {Q : V → Hp → Nat → Prop} {K : PySem.W.Frag}
theorem sp_call {B : List V → Hp → AK → AXK → Prop} {vs : List V} {E : XK} {EA : Value → Option Addr → Hp → Nat → Prop} (hm : MonoX B)
    (hE : ∀ cls d kn' n' H', EA cls d kn' n' → Good c kn' n' H' → E cls d H') (h : B vs kn (fun v k => Q v k n) (fun cls d k => EA cls d k n)) : W c (fun H Q' => liftX B vs H Q' E) kn n Q :=
  fun H g Q' q => ⟨kn, g.ex, g.nt, hm vs kn _ _ _ _ (fun v k hq n' H' g' => q v k n H' hq (g.back g')) (fun cls d k he n' H' g' => hE cls d k n H' he (g.back g')) h⟩
theorem w_callX {B : List V → Hp → AK → AXK → Prop} {dvs : List V} {E : XK} {t : TA} {EA : Value → Option Addr → Hp → Nat → Prop} (hm : MonoX B)
    (hE : ∀ cls d kn' n' H', EA cls d kn' n' → Good c kn' n' H' → E cls d H') (h : W c (t σ) kn n fun vs kn1 n1 => B (vs ++ dvs) kn1 (fun v k => Q v k n1) (fun cls d k => EA cls d k n1)) : W c (tCall (liftX B) dvs E t σ) kn n Q :=
  fun H g Q' q => h H g _ fun vs kn1 n1 H1 h1 g1 => sp_call hm hE h1 H1 g1 Q' q
theorem w_call0 {B : List V → Hp → AK → AXK → Prop} {dvs : List V} {E : XK} {t : TA} (hm : MonoX B)
    (h : W c (t σ) kn n fun vs kn1 n1 => B (vs ++ dvs) kn1 (fun v k => Q v k n1) (fun _ _ _ => False)) : W c (tCall (liftX B) dvs E t σ) kn n Q :=
  w_callX (EA := fun _ _ _ _ => False) hm (fun _ _ _ _ _ h => h.elim) h
/-- the ends of a def's body -/
abbrev bodyE (c : Cw) (Q : VK) : AE := { nx := fun _ kn n => ∀ H', Good c kn n H' → Q .non H', rt := fun v kn n => ∀ H', Good c kn n H' → Q v H' }
theorem fits_body {c : Cw} {Q : VK} : Fits c (bodyE c Q) { nx := fun _ H' => Q .non H', rt := Q } :=
  ⟨fun σ kn n H h g => h H g, fun v kn n H h g => h H g, fun _ _ _ _ h _ => h.elim, fun _ _ _ _ h _ => h.elim⟩
theorem body_of {c : Cw} {t : TS} {Q : VK} {H : Hp} (g : Good c kn n H) (h : WS c t (bodyE c Q) σ kn n) : t { nx := fun _ H' => Q .non H', rt := Q } σ H := h H g _ fits_body
theorem s_mono {D D' : AE} {t : TS} (h : WS c t D σ kn n) (e1 : ∀ σ kn n, D.nx σ kn n → D'.nx σ kn n) (e2 : ∀ v kn n, D.rt v kn n → D'.rt v kn n) (e3 : ∀ σ kn n, D.bk σ kn n → D'.bk σ kn n) (e4 : ∀ σ kn n, D.ct σ kn n → D'.ct σ kn n) : WS c t D' σ kn n :=
  fun H g D2 f => h H g D2 ⟨fun σ kn n H h g => f.nx σ kn n H (e1 _ _ _ h) g, fun v kn n H h g => f.rt v kn n H (e2 _ _ _ h) g, fun σ kn n H h g => f.bk σ kn n H (e3 _ _ _ h) g, fun σ kn n H h g => f.ct σ kn n H (e4 _ _ _ h) g⟩
/-- the ways of a statement are joined -/
theorem s_join {D : AE} {t : TS} (J : L2.St → Hp → Nat → Prop) (h : WS c t { D with nx := J } σ kn n) (k : ∀ σ' kn' n', J σ' kn' n' → D.nx σ' kn' n') : WS c t D σ kn n :=
  s_mono h k (fun _ _ _ h => h) (fun _ _ _ h => h) (fun _ _ _ h => h)
theorem s_seqJ {D : AE} {t u : TS} (J : L2.St → Hp → Nat → Prop) (h : WS c t { D with nx := J } σ kn n) (k : ∀ σ' kn' n', J σ' kn' n' → WS c u D σ' kn' n') : WS c (tSeq t u) D σ kn n :=
  s_seq (s_join J h k)

/-! ### built-ins by names of their own -/
def rInt1 : List V → Hp → VK → Prop := fun xs H Q => (∃ i, xs = [.int i] ∧ Q (.int i) H) ∨ ∃ k, xs = [.bl k] ∧ Q (.int (if k then 1 else 0)) H
theorem c_int {X : Cx} : CallR X (.type "int") rInt1 := call_int1
theorem r_int1 {i : Int} (q : Q (.int i) kn n) : W c (rInt1 [.int i]) kn n Q := fun H g _ k => .inl ⟨i, rfl, k _ kn n H q g⟩
theorem r_int1b {b : Bool} (q : Q (.int (if b then 1 else 0)) kn n) : W c (rInt1 [.bl b]) kn n Q := fun H g _ k => .inr ⟨b, rfl, k _ kn n H q g⟩
def rAbs : List V → Hp → VK → Prop := fun xs H Q => ∃ i, xs = [.int i] ∧ Q (.int (if i < 0 then -i else i)) H
theorem c_abs {X : Cx} : CallR X (.builtin "abs") rAbs := call_abs
theorem r_abs {i : Int} (q : Q (.int (if i < 0 then -i else i)) kn n) : W c (rAbs [.int i]) kn n Q := fun H g _ k => ⟨i, rfl, k _ kn n H q g⟩
def rLenQ (K : PySem.W.Frag) : List V → Hp → VK → Prop := fun xs H Q => ∃ p ys, xs = [.ref p] ∧ (SqL K H p ys ∨ SqT K H p ys) ∧ Q (.int ys.length) H
theorem c_len {X : Cx} : CallR X (.builtin "len") (rLenQ X.K) := call_len_seq
theorem r_lenL {p : Addr} {xs : List V} (h : kn p = some (.lst xs)) (q : Q (.int xs.length) kn n) : W c (rLenQ K [.ref p]) kn n Q := fun H g _ k => ⟨p, xs, rfl, .inl (sql (g.ex _ _ h)), k _ kn n H q g⟩
theorem r_lenT {p : Addr} {xs : List V} (h : kn p = some (.tup xs)) (q : Q (.int xs.length) kn n) : W c (rLenQ K [.ref p]) kn n Q := fun H g _ k => ⟨p, xs, rfl, .inr (sqt (g.ex _ _ h)), k _ kn n H q g⟩
def rListQ (K : PySem.W.Frag) : List V → Hp → VK → Prop := fun xs H Q => ∃ p ys, xs = [.ref p] ∧ (SqL K H p ys ∨ SqT K H p ys) ∧ ∀ l, H l = none → Q (.ref l) (upd H l (.lst ys))
theorem c_list {X : Cx} : CallR X (.type "list") (rListQ X.K) := call_list_of
theorem r_listL {p : Addr} {xs : List V} (h : kn p = some (.lst xs)) (q : ∀ l, kn l = none → Q (.ref l) (upd kn l (.lst xs)) n) : W c (rListQ K [.ref p]) kn n Q := fun H g _ k => ⟨p, xs, rfl, .inl (sql (g.ex _ _ h)), fun l hl => k _ _ _ _ (q l (g.free hl)) (g.new hl)⟩
def rStrI : List V → Hp → VK → Prop := fun xs H Q => ∃ i, xs = [.int i] ∧ i.natAbs.log2 < 1920 ∧ Q (.str (toString i)) H
theorem c_strI {X : Cx} : CallR X (.type "str") rStrI := call_str_int
theorem r_strI {i : Int} (h : i.natAbs.log2 < 1920) (q : Q (.str (toString i)) kn n) : W c (rStrI [.int i]) kn n Q := fun H g _ k => ⟨i, rfl, h, k _ kn n H q g⟩

/-! ### == of data -/
theorem r_eqD {x y : V} {d e : PyData} (hx : Dp K kn x d) (hy : Dp K kn y e) (sx : SeqAt.shaped d = true) (sy : SeqAt.shaped e = true) (hmono : ∀ H v d, Ext kn H → Dp K kn v d → Dp K H v d) (q : Q (.bl (PyData.eqv d e)) kn n) : W c (rEqD K x y) kn n Q :=
  fun H g _ k => ⟨d, e, hmono H x d g.ex hx, hmono H y e g.ex hy, sx, sy, k _ kn n H q g⟩
mutual
theorem Dp.ext {H H' : Hp} (e : Ext H H') : ∀ (d : PyData) (v : V), Dp K H v d → Dp K H' v d
  | .none, _, h => by cases h; exact .non
  | .bool b, _, h => by cases h; exact .bl b
  | .int i, _, h => by cases h; exact .int i
  | .str x, _, h => by cases h; exact .str x
  | .list ds, _, h => by
    cases h with
    | lst hs ha => exact .lst (hs.ext e) (Dp.extAll e ds _ ha)
  | .tuple ds, _, h => by
    cases h with
    | tup hs ha => exact .tup (hs.ext e) (Dp.extAll e ds _ ha)
  | .dict _, _, h => by cases h
theorem Dp.extAll {H H' : Hp} (e : Ext H H') : ∀ (ds : List PyData) (vs : List V), DpAll K H vs ds → DpAll K H' vs ds
  | [], _, h => by cases h; exact .nil
  | d :: ds, _, h => by
    cases h with
    | cons h1 h2 => exact .cons (Dp.ext e d _ h1) (Dp.extAll e ds _ h2)
end
theorem r_eq_d {x y : V} {d e : PyData} (hx : Dp K kn x d) (hy : Dp K kn y e) (sx : SeqAt.shaped d = true) (sy : SeqAt.shaped e = true) (q : Q (.bl (PyData.eqv d e)) kn n) : W c (rEqD K x y) kn n Q :=
  r_eqD hx hy sx sy (fun H v d e h => Dp.ext e d v h) q
theorem r_ne_d {x y : V} {d e : PyData} (hx : Dp K kn x d) (hy : Dp K kn y e) (sx : SeqAt.shaped d = true) (sy : SeqAt.shaped e = true) (q : Q (.bl (!PyData.eqv d e)) kn n) : W c (rNeD K x y) kn n Q :=
  fun H g _ k => ⟨d, e, Dp.ext g.ex d x hx, Dp.ext g.ex e y hy, sx, sy, k _ kn n H q g⟩
end
end AW

/-! Operators of own classes. -/
namespace OX
open PySem PySem.W PySem.Calls PyProof.Rows Builtin
section
variable {prog : Program} {w : World} {A : Around} {E : Value → Shared → Prop} {s : Shared} {K : Frag} {x C f : Addr} {ox : Obj} {od : Option Obj} {b : Value}

theorem numSlot_own {M : Model} {h : Heap} {nm : String} (X : K.In h) (hs : findIn K (.ref C) (PySem.dunder nm) = some (some (.ref f))) (hr : findIn K (.ref C) (dunderR nm) = some none) :
    Looks M h (numberSlotInPython (.ref C) nm) true := by
  intro A Q E s k q
  unfold numberSlotInPython
  dsimp only
  refine wpAny_bind (looks_findIn X hs A _ E s k ?_)
  show wpAny M A (pure true >>= _) _ _ _
  refine wpAny_bind (wpAny_pure ?_)
  refine wpAny_bind (looks_findIn X hr A _ E s k ?_)
  show wpAny M A (pure false >>= _) _ _ _
  refine wpAny_bind (wpAny_pure ?_)
  simp only [Bool.or_false, if_true]
  exact wpAny_pure q
/-- an operator of an own class, the other operand of a built-in type -/
theorem binop1_T {nm T : String} {r : Bool} {o : Option Value} {Q : Value → Shared → Prop} (X : K.In s.heap) (I : InstAt s.heap x ox C od) (hb : Looks (model prog w) s.heap (typeOf b) (.type T)) (hc : selfFirst K C = true)
    (hs : findIn K (.ref C) (PySem.dunder nm) = some (some (.ref f))) (hf : isFn K (.ref f) = true) (hr : findIn K (.ref C) (dunderR nm) = some none) (fill : fillsNumberSlot (.type T) nm = pure r)
    (sub : subIn K (.type T) (.ref C) = some false) (hT : typeLookup (.type T) (dunderR nm) = pure o)
    (h : wpAny (model prog w) A (call (.ref f) [.ref x, b]) (PySem.W.CmpBack Q) E s) : wpAny (model prog w) A (binaryOp1 nm (.ref x) b) (fun r s' => ∃ v, r = some v ∧ Q v s') E s := by
  obtain ⟨cd, hcd, hm⟩ := any_some hc
  obtain ⟨rest, hm⟩ : ∃ rest, cd.mro = .ref C :: rest := by
    cases q : cd.mro with
    | nil => rw [q] at hm; cases hm
    | cons a r => rw [q] at hm; exact ⟨r, by rw [List.head?_cons] at hm; cases (beq_iff_eq.mp hm); rfl⟩
  have ne : ((Value.ref C) == (Value.type T)) = false := beq_eq_false_iff_ne.mpr (fun z => nomatch z)
  have last : ∀ {α : Type} (k : Option Value → Sem α) (P : α → Shared → Prop), (∀ v s', PySem.W.CmpBack Q v s' → wpAny (model prog w) A (k (some v)) P E s') → wpAny (model prog w) A (tryMethod (.ref x) (PySem.dunder nm) b >>= k) P E s := fun k P hk => by
    refine wpAny_bind ?_
    unfold tryMethod
    refine wpAny_bind (special_fn X I hs (beq_iff_eq.mp hf) (wpAny_mono h (fun v s' hv => ?_) fun _ _ e => e))
    cases v <;> first | exact hv.elim | exact wpAny_pure (hk _ _ hv)
  unfold binaryOp1
  refine wpAny_bind (I.type.here (wpAny_bind (hb.here (wpAny_bind ((fills_K X hcd hm hs).here ?_)))))
  rw [ne]
  simp only [Bool.false_eq_true, if_false]
  refine wpAny_bind (wpAny_of_eq fill ?_)
  cases r with
  | false =>
    simp only [Bool.and_false, Bool.false_eq_true, if_false, Bool.false_and]
    refine wpAny_bind (wpAny_pure ?_)
    simp only [Bool.false_eq_true, if_false, if_true]
    refine last _ _ fun v s' hv => ?_
    cases v <;> first | exact hv.elim | exact wpAny_pure ⟨_, rfl, hv⟩
  | true =>
    simp only [Bool.and_true, if_true]
    refine wpAny_bind ((looks_subIn X sub).here ?_)
    simp only [Bool.false_eq_true, if_false, Bool.not_false, Bool.and_true, if_true]
    refine wpAny_bind ((numSlot_own X hs hr).here ?_)
    simp only [if_true]
    refine wpAny_bind (wpAny_of_eq (show numberSlotInPython (.type T) nm = pure false from rfl) ?_)
    simp only [Bool.not_false, if_true]
    refine wpAny_bind (wpAny_of_eq hT ?_)
    refine last _ _ fun v s' hv => ?_
    cases v <;> first | exact hv.elim | exact wpAny_pure ⟨_, rfl, hv⟩
/-- .. the other operand of the same class -/
theorem binop1_C {nm : String} {Q : Value → Shared → Prop} (X : K.In s.heap) (I : InstAt s.heap x ox C od) (hb : Looks (model prog w) s.heap (typeOf b) (.ref C)) (hc : selfFirst K C = true)
    (hs : findIn K (.ref C) (PySem.dunder nm) = some (some (.ref f))) (hf : isFn K (.ref f) = true)
    (h : wpAny (model prog w) A (call (.ref f) [.ref x, b]) (PySem.W.CmpBack Q) E s) : wpAny (model prog w) A (binaryOp1 nm (.ref x) b) (fun r s' => ∃ v, r = some v ∧ Q v s') E s := by
  obtain ⟨cd, hcd, hm⟩ := any_some hc
  obtain ⟨rest, hm⟩ : ∃ rest, cd.mro = .ref C :: rest := by
    cases q : cd.mro with
    | nil => rw [q] at hm; cases hm
    | cons a r => rw [q] at hm; exact ⟨r, by rw [List.head?_cons] at hm; cases (beq_iff_eq.mp hm); rfl⟩
  unfold binaryOp1
  refine wpAny_bind (I.type.here (wpAny_bind (hb.here (wpAny_bind ((fills_K X hcd hm hs).here ?_)))))
  simp only [beq_self_eq_true, if_true]
  refine wpAny_bind (wpAny_pure ?_)
  simp only [Bool.and_false, Bool.false_eq_true, if_false, Bool.false_and]
  refine wpAny_bind (wpAny_pure ?_)
  simp only [Bool.false_eq_true, if_false]
  refine wpAny_bind (m := tryMethod (.ref x) _ b) ?_
  unfold tryMethod
  refine wpAny_bind (special_fn X I hs (beq_iff_eq.mp hf) (wpAny_mono h (fun v s' hv => ?_) fun _ _ e => e))
  cases v <;> first | exact hv.elim | exact wpAny_pure (wpAny_pure ⟨_, rfl, hv⟩)
theorem binop_of {op : Operator} {a : Value} {Q : Value → Shared → Prop} (h : wpAny (model prog w) A (binaryOp1 op.info.2 a b) (fun r s' => ∃ v, r = some v ∧ Q v s') E s) : wpAny (model prog w) A (binaryOp op a b) Q E s := by
  unfold binaryOp
  refine wpAny_holding (wpAny_bind (wpAny_mono h (fun r s' z => ?_) fun _ _ z => z))
  obtain ⟨v, rfl, q⟩ := z
  exact wpAny_pure q
theorem inplace_of {op : Operator} {Q : Value → Shared → Prop} (I : InstAt s.heap x ox C od) (hno : Looks (model prog w) s.heap (fillsInplaceSlot (.ref C) op.info.2 (op == .Add)) false)
    (h : wpAny (model prog w) A (binaryOp1 op.info.2 (.ref x) b) (fun r s' => ∃ v, r = some v ∧ Q v s') E s) : wpAny (model prog w) A (inplaceOp op (.ref x) b) Q E s := by
  unfold inplaceOp
  refine wpAny_holding (wpAny_bind (I.type.here (wpAny_bind (hno.here ?_))))
  simp only [Bool.false_eq_true, if_false]
  refine wpAny_bind (wpAny_mono h (fun r s' z => ?_) fun _ _ z => z)
  obtain ⟨v, rfl, q⟩ := z
  exact wpAny_pure q
/-- a class with no other own class above it has no slot in place -/
theorem noInplace {M : Model} {h : Heap} {nm : String} {add : Bool} {cd : ClassData} (X : K.In h) (hc : clsIn K C = some cd) (hm : cd.mro = [.ref C, .type "object"]) (hi : findIn K (.ref C) (dunderI nm) = some none)
    (ho : typeLookup (.type "object") (dunderI nm) = pure none) : Looks M h (fillsInplaceSlot (.ref C) nm add) false := by
  intro A Q E s k q
  unfold fillsInplaceSlot
  dsimp only
  refine wpAny_bind ((looks_clsIn X hc).andThen (f := fun cd => pure cd.mro) .now A _ E s k ?_)
  rw [hm, List.anyM_cons]
  refine wpAny_bind (wpAny_bind (looks_findIn X hi A _ E s k ?_))
  dsimp only
  refine wpAny_pure ?_
  simp only [Bool.false_eq_true, if_false]
  rw [List.anyM_cons, ho]
  refine wpAny_bind (wpAny_bind (wpAny_pure ?_))
  dsimp only
  refine wpAny_pure ?_
  simp only [Bool.false_eq_true, if_false, List.anyM_nil]
  exact wpAny_pure q

/-! ### != by an own == -/
theorem ifBound_bi {M : Model} {id : String} {name : Str} {args : List Value} {Q : Option Value → Shared → Prop} (X : K.In s.heap) (I : InstAt s.heap x ox C od) (hs : findIn K (.ref C) name = some (some (.builtin id)))
    (hbd : bindSpecial (.builtin id) (.ref x) = pure (.builtin id, [.ref x])) (h : wpAny M A (call (.builtin id) (.ref x :: args)) (fun v => Q (some v)) E s) : wpAny M A (callSpecialIfBound? (.ref x) name args) Q E s := by
  simp only [callSpecialIfBound?, bindSpecialIfBound?]
  refine wpAny_holding (wpAny_bind (wpAny_bind (wpAny_bind (I.type.here ((looks_findIn X hs).here ?_)))))
  refine wpAny_bind (wpAny_askSetting (wpAny_ite ?_))
  have fin : wpAny M A (call (.builtin id) ([.ref x] ++ args) >>= fun v => pure (some v)) Q E s := wpAny_bind (wpAny_mono h (fun v s' h' => wpAny_pure h') fun _ _ h' => h')
  rw [hbd]
  split
  · exact wpAny_bind (wpAny_pure (wpAny_pure (by exact fin)))
  · exact wpAny_tryCatch (wpAny_bind (wpAny_pure (wpAny_pure (by exact fin))))
/-- x != b, __eq__ the text's own, __ne__ object's -/
theorem ne_own {tb : Value} {Q : Value → Shared → Prop} (hu : A.units + 1 < cLine) (X : K.In s.heap) (I : InstAt s.heap x ox C od) (hb : Looks (model prog w) s.heap (typeOf b) tb) (hn : notFirst K C tb = true)
    (hs : findIn K (.ref C) "__eq__" = some (some (.ref f))) (hf : isFn K (.ref f) = true) (hne : findIn K (.ref C) "__ne__" = some (some (.builtin "object.__ne__"))) (hm : mroIn K C (.type "object") = some true)
    (h : wpAny (model prog w) A.in1 (call (.ref f) [.ref x, b]) (fun v s' => ∃ k, v = .bool k ∧ Q (.bool (!k)) s') E s) : wpAny (model prog w) A (richCompare .NotEq (.ref x) b) Q E s := by
  have hu0 : A.units < cLine := Nat.lt_of_succ_lt hu
  have sub : Looks (model prog w) s.heap (isInstance (.ref x) (.type "object")) true := I.type.andThen (looks_mroIn X hm)
  have one : wpAny (model prog w) A (tryCompare (.ref x) "__ne__" b) (fun r s' => ∃ k, r = some (.bool k) ∧ Q (.bool k) s') E s := by
    unfold tryCompare
    refine wpAny_bind (ifBound_bi X I hne (F.cmp_object.ne.bind (.ref x)) (wpAny_call (codeAny_call_builtin F.cmp_object.ne.plain F.cmpEntry_ne (W.check_slot F.cmpKind_ne F.cmpSplit_ne sub (F.cmpArgs_ne _ _) ?_))))
    unfold Builtin.«object.__ne__»
    refine wpAny_bind (wpAny_of_eq (a := ((Value.ref x : Value), [b])) (by first | rfl | (simp only [slotArgs]; rfl)) ?_)
    dsimp only
    refine wpAny_bind (wpAny_cRoomFor (show A.in1.units < cLine from hu) ?_)
    refine wpAny_bind (ifBound_K X I hs hf (wpAny_mono h (fun v s' hv => ?_) fun _ _ e => e))
    obtain ⟨k, rfl, hq⟩ := hv
    dsimp only
    refine wpAny_bind (wpAny_truthy_bool ?_)
    exact wpAny_pure (wpAny_pure ⟨_, rfl, hq⟩)
  unfold richCompare
  simp only [oneThing_ref]
  refine wpAny_holding (wpAny_bind (wpAny_cRoomFor hu0 ?_))
  refine wpAny_bind (I.type.here (wpAny_bind (hb.here ?_)))
  split
  · rename_i q
    have e : subIn K tb (.ref C) = some false := by
      rcases Bool.or_eq_true_iff.mp hn with e | e
      · rw [beq_iff_eq.mp e] at q; simp at q
      · exact beq_iff_eq.mp e
    refine wpAny_bind ((looks_subIn X e).here ?_)
    simp only [Bool.false_eq_true, if_false]
    refine wpAny_bind (wpAny_mono one (fun r s' z => ?_) fun _ _ e => e)
    obtain ⟨v, rfl, hq⟩ := z
    exact wpAny_pure hq
  · refine wpAny_bind (wpAny_pure ?_)
    simp only [Bool.false_eq_true, if_false]
    refine wpAny_bind (wpAny_mono one (fun r s' z => ?_) fun _ _ e => e)
    obtain ⟨v, rfl, hq⟩ := z
    exact wpAny_pure hq
end
end OX

/-! Own operators as rules over the abstract heap. -/
namespace L2
open PySem PySem.Spec PyProof.Rows
section
variable {X : Cx} {CX : CXT} {k : Nat} {f C : Addr} {fd : FuncData} {ps : List Str} {sp : Sp} {E : XK}
theorem callA {A : Around} {pins : List (Addr × Obj)} {σ : St} {H : Hp} {s : Shared} {Q : VK} {us : List Value} {vs : List V} (F : FnOk X.prog X.w X.K X.mg X.base CX k f fd ps sp) (hr : Room k A) (hfr : A.frames = X.A.frames)
    (hb : Binds X.K fd ps []) (hx : Passes CX X E) (I : Inv X pins σ H s) (r : Vals vs us) (h : sp vs H Q E) : wpAny (model X.prog X.w) A (call (.ref f) us) (EP X pins σ Q) X.xe s := by
  have hl : us.length = ps.length := by rw [← r.length]; exact F.len _ _ _ _ h
  have e0 : Env0 X.prog X.w X.K X.mg X.base A X.stack s H := by
    have e := I.env0
    exact ⟨by rw [hfr]; exact e.frames, e.mod, e.bs, e.bsz, e.funs, e.frf, e.hok, e.bare⟩
  refine wpAny_call (codeAny_mono (F.run A X.stack s H ⟨us, []⟩ us vs Q E hr e0 (by have := hb s us I.kIn (by simpa using hl); simpa using this) r h) fun r s' hq => ?_)
  cases r with
  | error e => exact hx pins σ H s e s' I hq
  | ok fl =>
    cases fl with
    | ret u => exact I.after hq
    | next => exact False.elim hq
    | brk => exact False.elim hq
    | cont => exact False.elim hq
theorem relV_ni {v : V} {u : Value} (r : RelV v u) {P : Value → Shared → Prop} {s : Shared} (h : P u s) : PySem.W.CmpBack P u s := by
  cases v with
  | non => cases (show u = Value.none from r); exact h
  | bl b => cases (show u = Value.bool b from r); exact h
  | int i => obtain ⟨t, e⟩ := (show ∃ t, u = Value.int i t from r); subst e; exact h
  | str x => obtain ⟨t, e⟩ := (show ∃ t, u = Value.str x t from r); subst e; exact h
  | byt x => obtain ⟨t, e⟩ := (show ∃ t, u = Value.bytes x t from r); subst e; exact h
  | flt x => obtain ⟨t, e⟩ := (show ∃ t, u = Value.float x t from r); subst e; exact h
  | ref a => cases (show u = Value.ref a from r); exact h
  | ty n => cases (show u = Value.type n from r); exact h

/-- what the written part says of an own class -/
structure OwnC (K : PySem.W.Frag) (C : Addr) : Prop where
  cl : Cls K C
  ha : PySem.W.findIn K (.ref C) "__class__" = some (some (.builtin "object.__class__"))
  hn : PySem.W.specialIn K (.builtin "object.__class__") "__get__" = some (some (.builtin "getset_descriptor.__get__"))
  htk : PySem.W.takesIn K (.builtin "object.__class__") = some true
  hm : PySem.W.mroIn K C (.type "object") = some true
theorem OwnC.ty {K : PySem.W.Frag} (c : OwnC K C) {H : Hp} {a dx : Addr} {fs : List (Str × V)} (e : H a = some (.ins C dx fs)) : TyX K H (.ref a) (.ref C) := .base (.ins e c.cl c.ha c.hn c.htk c.hm)
/-- an operator of the text's own for a left operand of the class at C -/
structure OpM (K : PySem.W.Frag) (op : Operator) (C f : Addr) : Prop where
  self : PySem.W.selfFirst K C = true
  hs : PySem.W.findIn K (.ref C) (PySem.dunder op.info.2) = some (some (.ref f))
  hf : PySem.W.isFn K (.ref f) = true
  hr : PySem.W.findIn K (.ref C) (dunderR op.info.2) = some none
/-- the right operand's type -/
inductive OpT (K : PySem.W.Frag) (op : Operator) (C : Addr) : Value → Prop where
  | own : OpT K op C (.ref C)
  | ty {T : String} {r : Bool} {o : Option Value} (fill : fillsNumberSlot (.type T) op.info.2 = pure r) (sub : PySem.W.subIn K (.type T) (.ref C) = some false) (hT : typeLookup (.type T) (dunderR op.info.2) = pure o) : OpT K op C (.type T)
def rOwn (K : PySem.W.Frag) (op : Operator) (C : Addr) (sp : Sp) (E : XK) : R2 := fun x y H Q => ∃ a dx fs t, x = .ref a ∧ H a = some (.ins C dx fs) ∧ TyX K H y t ∧ OpT K op C t ∧ sp [.ref a, y] H Q E
theorem typeOf_of {pins : List (Addr × Obj)} {σ : St} {H : Hp} {s : Shared} {y : V} {u t : Value} (I : Inv X pins σ H s) (ry : RelV y u) (ty : TyX X.K H y t) : PySem.W.Looks (model X.prog X.w) s.heap (typeOf u) t := by
  obtain ⟨P, Z, p, _⟩ := kit_of I ry ty
  exact Z.ty _ _ I.kIn p
theorem op_own {op : Operator} (M : OpM X.K op C f) (F : FnOk X.prog X.w X.K X.mg X.base CX k f fd ps sp) (hr : Room k X.A) (hb : Binds X.K fd ps []) (hx : Passes CX X E) : OpR X (binaryOp op) (rOwn X.K op C sp E) := by
  intro pins s σ H x y v u Q I rx ry h
  obtain ⟨a, dx, fs, t, rfl, ha, ty, ot, hq⟩ := h
  cases rx
  obtain ⟨mA, J, _⟩ := ins_get I.hok ha
  obtain ⟨od, J, _⟩ := J.look
  have hbt := typeOf_of I ry ty
  have hc : wpAny (model X.prog X.w) X.A (call (.ref f) [.ref a, u]) (PySem.W.CmpBack (EP X pins σ Q)) X.xe s :=
    wpAny_mono (callA (vs := [.ref a, y]) F hr rfl hb hx I (.cons rfl (.cons ry .nil)) hq) (fun z s' hz => by
      obtain ⟨v', H', I', rv, q⟩ := id hz
      exact relV_ni rv hz) fun _ _ z => z
  refine OX.binop_of ?_
  cases ot with
  | own => exact OX.binop1_C I.kIn J hbt M.self M.hs M.hf hc
  | ty fill sub hT => exact OX.binop1_T I.kIn J hbt M.self M.hs M.hf M.hr fill sub hT hc
/-- no method of the class works in place -/
structure NoIp (K : PySem.W.Frag) (op : Operator) (C : Addr) : Prop where
  cd : ∃ cd, PySem.W.clsIn K C = some cd ∧ cd.mro = [.ref C, .type "object"]
  hi : PySem.W.findIn K (.ref C) (dunderI op.info.2) = some none
  ho : typeLookup (.type "object") (dunderI op.info.2) = pure none
theorem ip_own {op : Operator} (M : OpM X.K op C f) (N : NoIp X.K op C) (F : FnOk X.prog X.w X.K X.mg X.base CX k f fd ps sp) (hr : Room k X.A) (hb : Binds X.K fd ps []) (hx : Passes CX X E) : PIp X op (rOwn X.K op C sp E) := by
  intro pins s σ H x y v u Q I rx ry h
  obtain ⟨a, dx, fs, t, rfl, ha, ty, ot, hq⟩ := h
  cases rx
  obtain ⟨mA, J, _⟩ := ins_get I.hok ha
  obtain ⟨od, J, _⟩ := J.look
  have hbt := typeOf_of I ry ty
  have hc : wpAny (model X.prog X.w) X.A (call (.ref f) [.ref a, u]) (PySem.W.CmpBack (EP X pins σ Q)) X.xe s :=
    wpAny_mono (callA (vs := [.ref a, y]) F hr rfl hb hx I (.cons rfl (.cons ry .nil)) hq) (fun z s' hz => by
      obtain ⟨v', H', I', rv, q⟩ := id hz
      exact relV_ni rv hz) fun _ _ z => z
  obtain ⟨cd, hcd, hm⟩ := N.cd
  refine OX.inplace_of J (OX.noInplace I.kIn hcd hm N.hi N.ho) ?_
  cases ot with
  | own => exact OX.binop1_C I.kIn J hbt M.self M.hs M.hf hc
  | ty fill sub hT => exact OX.binop1_T I.kIn J hbt M.self M.hs M.hf M.hr fill sub hT hc

/-! ### == and != by an own == -/
structure EqM (K : PySem.W.Frag) (C f : Addr) : Prop where
  hs : PySem.W.findIn K (.ref C) "__eq__" = some (some (.ref f))
  hf : PySem.W.isFn K (.ref f) = true
  hne : PySem.W.findIn K (.ref C) "__ne__" = some (some (.builtin "object.__ne__"))
  hm : PySem.W.mroIn K C (.type "object") = some true
def rEqO (K : PySem.W.Frag) (C : Addr) (sp : Sp) (neg : Bool) : R2 := fun x y H Q => ∃ a dx fs t, x = .ref a ∧ H a = some (.ins C dx fs) ∧ TyX K H y t ∧ PySem.W.notFirst K C t = true ∧
  sp [.ref a, y] H (fun v H' => ∃ b, v = .bl b ∧ Q (.bl (if neg then !b else b)) H') (fun _ _ _ => False)
theorem op_eqO (M : EqM X.K C f) (F : FnOk X.prog X.w X.K X.mg X.base CX k f fd ps sp) (hr : Room (k + 1) X.A) (hb : Binds X.K fd ps []) (hx : Passes CX X (fun _ _ _ => False)) : OpR X (compareOp .Eq) (rEqO X.K C sp false) := by
  intro pins s σ H x y v u Q I rx ry h
  obtain ⟨a, dx, fs, t, rfl, ha, ty, nf, hq⟩ := h
  cases rx
  obtain ⟨mA, J, _⟩ := ins_get I.hok ha
  obtain ⟨od, J, _⟩ := J.look
  have hbt := typeOf_of I ry ty
  obtain ⟨m, hF⟩ := I.fr
  show wpAny (model X.prog X.w) X.A (richCompare .Eq (.ref a) u) (EP X pins σ Q) X.xe s
  refine PySem.W.cmp_K (op := .Eq) hr.units0 hF I.ok.mod.kin J hbt nf M.hs M.hf ?_
  refine wpAny_mono (callA (vs := [.ref a, y]) F (hr.mono (Nat.le_succ _)) rfl hb hx I (.cons rfl (.cons ry .nil)) hq) (fun z s' hz => ?_) fun _ _ z => z
  obtain ⟨v', H', I', rv, b, e, q⟩ := hz
  subst e
  cases (show z = Value.bool b from rv)
  exact ⟨.bl b, H', I', rfl, q⟩
theorem op_neO (M : EqM X.K C f) (F : FnOk X.prog X.w X.K X.mg X.base CX k f fd ps sp) (hr : Room (k + 1) X.A) (hb : Binds X.K fd ps []) (hx : Passes CX X (fun _ _ _ => False)) : OpR X (compareOp .NotEq) (rEqO X.K C sp true) := by
  intro pins s σ H x y v u Q I rx ry h
  obtain ⟨a, dx, fs, t, rfl, ha, ty, nf, hq⟩ := h
  cases rx
  obtain ⟨mA, J, _⟩ := ins_get I.hok ha
  obtain ⟨od, J, _⟩ := J.look
  have hbt := typeOf_of I ry ty
  show wpAny (model X.prog X.w) X.A (richCompare .NotEq (.ref a) u) (EP X pins σ Q) X.xe s
  have hu := hr.un
  refine OX.ne_own (by omega) I.kIn J hbt nf M.hs M.hf M.hne M.hm ?_
  refine wpAny_mono (callA (A := X.A.in1) (vs := [.ref a, y]) F hr.in1 rfl hb hx I (.cons rfl (.cons ry .nil)) hq) (fun z s' hz => ?_) fun _ _ z => z
  obtain ⟨v', H', I', rv, b, e, q⟩ := hz
  subst e
  cases (show z = Value.bool b from rv)
  exact ⟨b, rfl, .bl (!b), H', I', rfl, q⟩
end
end L2

/-! A caught error that is kept behind its suite. -/
namespace L2
open PySem PySem.Spec PyProof.Rows
/-- an error of the class cls that was caught, its own dict at d -/
def exh (e : Addr) (cls : Value) (d : Option Addr) : HO := .ext fun h => ∃ oe : Obj, h.get? e = some oe ∧ Zc cls d oe ∧ ∃ vs, oe.data = .fields vs
theorem exh_ok {P : Program} {w : World} {H : Hp} {h : Heap} {e : Addr} {cls : Value} {d : Option Addr} {oe : Obj} (he : h.get? e = some oe) (hz : Zc cls d oe) (hf : ∃ vs, oe.data = .fields vs) : ObjOk P w H h e (exh e cls d) :=
  ⟨⟨oe, he, hz, hf⟩, ⟨oe, he⟩, fun h1 h2 z k => by
    obtain ⟨o, q, r⟩ := z
    exact ⟨o, k _ q, r⟩⟩
theorem exh_at {P : Program} {w : World} {H : Hp} {h : Heap} {e : Addr} {cls : Value} {d : Option Addr} (ok : HOk P w H h) (q : H e = some (exh e cls d)) : ∃ oe : Obj, h.get? e = some oe ∧ Zc cls d oe ∧ ∃ vs, oe.data = .fields vs := by
  have z : ObjOk P w H h e (.ext fun h => ∃ oe : Obj, h.get? e = some oe ∧ Zc cls d oe ∧ ∃ vs, oe.data = .fields vs) := ok e _ q
  exact z.1
section
variable {X : Cx} {pins : List (Addr × Obj)} {σ : St} {H : Hp} {s : Shared}
/-- an object that no one knew is known from now on -/
theorem Inv.track {a : Addr} {oe : Obj} {vs : Array Value} {cls : Value} {d : Option Addr} (I : Inv X ((a, oe) :: pins) σ H s) (hd : oe.data = .fields vs) (hz : Zc cls d oe) (n0 : X.s_0.heap.get? a = none) (np : ∀ p ∈ X.pn ++ pins, p.1 ≠ a) :
    Inv X pins σ (upd H a (exh a cls d)) s := by
  obtain ⟨ea, na, nL, nF, _⟩ := I.pin (a, oe) (List.mem_append_right _ List.mem_cons_self)
  have old : ∀ {b o}, X.s_0.heap.get? b = some o → b ≠ a := fun {b o} e z => by rw [z, n0] at e; cases e
  have kn : ∀ {b u}, H b = some u → b ≠ a := fun {b u} e => ne_of_none e na
  refine ⟨I.ok, I.os, I.bare, ⟨I.base.keep, I.base.slot, fun b o e n hx => ?_, I.base.there, fun b xs e => ?_, fun b o u e => ?_, fun b ps e => ?_⟩, I.loc, I.cell, ?_, fun y c e => ?_, fun p hp => ?_, fun b u e => ?_, I.len⟩
  · rw [upd_ne (old e)]
    exact I.base.free b o e n hx
  · have q := I.base.tups b xs e
    rw [upd_ne (kn q)]
    exact q
  · have q := I.base.frzs b o u e
    rw [upd_ne (kn q)]
    exact q
  · obtain ⟨m, q⟩ := I.base.tbls b ps e
    exact ⟨m, by rw [upd_ne (kn q)]; exact q⟩
  · rw [upd_ne (Ne.symm nL)]
    exact I.free
  · obtain ⟨v, oc, hoc, hdc⟩ := I.cell y c e
    have hca : c ≠ a := fun z => by
      rw [z] at hoc
      have e2 : some oe = some oc := ea.symm.trans hoc
      rw [← Option.some.inj e2, hd] at hdc
      cases hdc
    rw [upd_ne hca]
    exact I.freeC y c e
  · obtain ⟨e, n, r⟩ := I.pin p (by
      rcases List.mem_append.mp hp with h | h
      · exact List.mem_append_left _ h
      · exact List.mem_append_right _ (List.mem_cons_of_mem _ h))
    exact ⟨e, by rw [upd_ne (np p hp)]; exact n, r⟩
  · by_cases hb : b = a
    · rw [hb, upd_same] at e
      cases e
      rw [hb]
      exact exh_ok ea hz ⟨vs, hd⟩
    · rw [upd_ne hb] at e
      exact (I.hok b u e).stay (fun c w' _ q => q) (fun c q => by rw [upd_ne (kn q)]; exact q) fun c xs q => by rw [upd_ne (kn q)]; exact q
theorem Inv.unsuiteK {a : Addr} {q : Addr × Obj} (I : Inv (X.suite a (q :: (X.pn ++ pins))) [] σ H s) (ok : X.Ok) : Inv X (q :: pins) σ H s :=
  ⟨ok, I.os, I.bare, I.base, I.loc, I.cell, I.free, I.freeC, fun p hp => I.pin p (List.mem_append_left _ (by
    rcases List.mem_append.mp hp with h | h
    · exact List.mem_cons_of_mem _ (List.mem_append_left _ h)
    · rcases List.mem_cons.mp h with h | h
      · rw [h]; exact List.mem_cons_self
      · exact List.mem_cons_of_mem _ (List.mem_append_right _ h))), I.hok, I.len⟩
end
/-- the wish of a body whose errors the clause takes, all of them, and keeps -/
def wKeep (K : PySem.W.Frag) (c : Value) (i : Nat) (ts : Addr → Value → Option Addr → TS) (D : Ends) : WX := fun cls d σ H => PySem.W.exmOne K cls c = some true ∧ ∀ a, H a = none →
  ts a cls d { nx := fun σ' H' => D.nx (σ'.set i none) (upd H' a (exh a cls d)), rt := fun v H' => D.rt v (upd H' a (exh a cls d)), bk := fun σ' H' => D.bk (σ'.set i none) (upd H' a (exh a cls d)), ct := fun σ' H' => D.ct (σ'.set i none) (upd H' a (exh a cls d)) } (σ.set i (some (.ref a))) H
section
variable {X : Cx} {x n : Str} {c : Value} {i : Nat} {body suite : List Stmt} {b₀ : Stmt} {np pos pos' : Pos} {tb : WX → TS} {ts : Addr → Value → Option Addr → TS}
theorem ps_try_keep (hex : X.ex = []) (hs : X.stack = X.env :: X.outer) (hf : X.env.frame = some X.env.locals) (hN : X.N.Nodup) (hi : X.N[i]? = some n) (hln : X.env.kindOf n = some .local) (hc : Names X x c)
    (hb : ∀ (W : WX) (pn : List (Addr × Obj)) (xe : Value → Shared → Prop), Takes (X.tr pn xe) W → PassesOwn (model X.prog X.w) X.A X.env xe → PSs (X.tr pn xe) body (tb W))
    (hsu : ∀ (a : Addr) (oe : Obj) (cls : Value) (d : Option Addr) (pn : List (Addr × Obj)), Zc cls d oe → (∃ vs, oe.data = .fields vs) → PSs (X.suite a ((a, oe) :: pn)) (b₀ :: suite) (ts a cls d)) :
    PS X (.Try body [.ExceptHandler (some (.Name x np)) (some n) (b₀ :: suite) pos'] [] [] pos) (fun D σ H => tb (wKeep X.K c i ts D) D σ H) := by
  refine ⟨fun pins s σ H D I h => ?_⟩
  have ok := I.ok
  have frm : X.A.frames = some (X.env :: X.outer) := by rw [ok.frames, hs]
  refine wpAny_Try_except ?_
  refine wpAny_mono ((hb (wKeep X.K c i ts D) (X.pn ++ pins) (fun e s₁ => wpAny (model X.prog X.w) X.A (noteFrame e X.env) (fun _ s₂ => wpAny (model X.prog X.w) X.A (setFlight e none)
    (fun _ s₃ => wpAny (model X.prog X.w) X.A (handleBy e X.env [.ExceptHandler (some (.Name x np)) (some n) (b₀ :: suite) pos']) (SP X pins D) X.xe s₃) X.xe s₂) X.xe s₁) (fun u s' xx => ?_) PassesOwn.looking).run [] s σ H D (I.toTry _) h) (fun f s1 hsp => ?_) (fun _ _ z => z)
  · obtain ⟨a, B, sI, pins', σ', H', cls, d, rfl, J', nb, up, sky, na, os, ag, hyes1, hyes⟩ := xx
    have J : Inv X pins σ' H' sI := J'.ofTry ok
    show wpAny (model X.prog X.w) X.A (noteFrame (.ref a) X.env) _ _ _
    refine Sky.land Zc.steady frm hf (show Sky B (X.env :: X.outer) a (Zc cls d) X.env.locals s'.heap by rw [← hs]; exact sky) fun h3 fl3 up3 => ?_
    have J3 : Inv X pins σ' H' { s' with heap := h3 } := J.landed nb fl3.1 (up.trans up3) os ag
    obtain ⟨oe3, vs3, he3, hz3, hd3⟩ := fl3.there
    have nfr : a ∉ frs (X.env :: X.outer) := fun hm => by
      obtain ⟨_, o', e', hnf⟩ := fl3.2.2.1.mem hm
      rw [he3] at e'
      cases e'
      exact hnf _ hd3
    have nL : a ≠ X.env.locals := fun z => nfr (List.mem_filterMap.mpr ⟨X.env, List.mem_cons_self, by rw [hf, z]⟩)
    have nF : a ∉ X.fs := fun hm => by
      obtain ⟨e, he, q⟩ := List.mem_filterMap.mp hm
      exact nfr (List.mem_filterMap.mpr ⟨e, List.mem_cons_of_mem _ he, q⟩)
    have inB : ∀ {b : Addr} {o : Obj}, sI.heap.get? b = some o → b ∉ frs X.stack → b ≠ a := fun {b o} e hb z => by
      have q := nb b o e hb
      rw [z, fl3.2.1] at q
      cases q
    have n0 : X.s_0.heap.get? a = none := by
      cases e : X.s_0.heap.get? a with
      | none => rfl
      | some o =>
        obtain ⟨o', e'⟩ := J.base.there a o e (by rw [hex]; exact fun z => nomatch z)
        exact absurd rfl (inB e' (by rw [hs]; exact nfr))
    have npin : ∀ p ∈ X.pn ++ pins, p.1 ≠ a := fun p hp => by
      obtain ⟨e, _, n1, n2, _⟩ := J.pin p hp
      exact inB e fun hm => (List.mem_cons.mp (J.stkSub _ hm)).elim n1 n2
    refine wpAny_handleBy_cons (codeAny_handlers_test ?_) (by intro q; cases q)
    have LT : PySem.W.Looks (model X.prog X.w) h3 (typeOf (.ref a)) cls := fun A Q E s k q => wpAny_typeOf_ref (k _ _ he3) (by rw [hz3.1]; exact q)
    have S3 := J3.suite he3 hd3 na nL nF
    have test : ∀ {Q : Value → Shared → Prop} {E : Value → Shared → Prop}, Q c { s' with heap := h3 } → wpAny (model X.prog X.w) (X.A.mark (some (.ref a))) (eval (.Name x np) X.env) Q E { s' with heap := h3 } := fun {Q E} q => by
      obtain ⟨g1, g2, g3 | ⟨g3, g4, g5⟩⟩ := hc
      · exact ld_glob (X := X.suite a ((a, oe3) :: (X.pn ++ pins))) S3 g1 g3 q g2
      · exact ld_blt (X := X.suite a ((a, oe3) :: (X.pn ++ pins))) S3 g1 g3 g4 q g5 g2
    refine test ((PySem.W.exm_one (M := model X.prog X.w) (J3.kIn) LT hyes1).here ?_)
    refine codeAny_handlers_suite_as ?_
    refine HandSPX.lands_againZ fl3 fun h4 fl4 up4 => ?_
    have J4 : Inv X pins σ' H' { s' with heap := h4 } := J.landed nb fl4.1 ((up.trans up3).trans up4) os ag
    obtain ⟨oe4, vs4, he4, hz4, hd4⟩ := fl4.there
    refine store_ok (X := X.suite a ((a, oe4) :: (X.pn ++ pins))) (v := .ref a) (J4.suite he4 hd4 na nL nF) hN hi (.inl hln) rfl (fun s5 S5 => ?_) (.inr hln)
    refine wpAny_mono ((hsu a oe4 cls d (X.pn ++ pins) hz4 ⟨_, hd4⟩).run [] s5 _ H' _ S5 (hyes a na)) (fun f s6 hsp => ?_) (fun _ _ z => False.elim z)
    have fin : ∀ {σ6 : St} {H6 : Hp} {Q : Shared → Prop}, Inv (X.suite a ((a, oe4) :: (X.pn ++ pins))) [] σ6 H6 s6 → (∀ s7, Inv X pins (σ6.set i none) (upd H6 a (exh a cls d)) s7 → Q s7) →
        wpAny (model X.prog X.w) X.A (do bindName X.env n .none; unbindBehindTheSuite X.env n pos') (fun _ s7 => Q s7) X.xe s6 := fun {σ6 H6 Q} S6 hq => gone_ok (S6.unsuiteK ok) hN hi hln fun s7 J7 => hq s7 (J7.track hd4 hz4 n0 npin)
    cases f with
    | ret u =>
      obtain ⟨v6, σ6, H6, S6, r6, q6⟩ := hsp
      exact fin S6 fun s7 J7 => ⟨_, _, _, J7, r6, q6⟩
    | next =>
      obtain ⟨σ6, H6, S6, q6⟩ := hsp
      exact fin S6 fun s7 J7 => ⟨_, _, J7, q6⟩
    | cont =>
      obtain ⟨σ6, H6, S6, q6⟩ := hsp
      exact fin S6 fun s7 J7 => ⟨_, _, J7, q6⟩
    | brk =>
      obtain ⟨σ6, H6, S6, q6⟩ := hsp
      exact fin S6 fun s7 J7 => ⟨_, _, J7, q6⟩
  · cases f with
    | ret u =>
      obtain ⟨v, σ', H', J', r, q⟩ := hsp
      exact ⟨v, σ', H', J'.ofTry ok, r, q⟩
    | next =>
      obtain ⟨σ', H', J', q⟩ := hsp
      exact wpAny_execs_nil ⟨σ', H', J'.ofTry ok, q⟩
    | cont =>
      obtain ⟨σ', H', J', q⟩ := hsp
      exact ⟨σ', H', J'.ofTry ok, q⟩
    | brk =>
      obtain ⟨σ', H', J', q⟩ := hsp
      exact ⟨σ', H', J'.ofTry ok, q⟩
end
end L2
/-! ### isinstance and fields of such an error -/
namespace PySem.W
open PySem PySem.Calls PyProof.Rows Builtin Builtin.ObjectAttr
section
variable {prog : Program} {w : World} {A : Around} {E : Value → Shared → Prop} {s : Shared} {K : Frag} {x D : Addr} {ox : Obj} {od : Option Obj}
theorem kxc_class {Q : Option Value → Shared → Prop} (C : L2.ExcC K D) (hf : findObj K D od "__class__" = some (.bind (.builtin "getset_descriptor.__get__") (.builtin "object.__class__")))
    (X : K.In s.heap) (I : InstAt s.heap x ox D od) (h : Q (some (.ref D)) { s with toks := s.toks + 1 }) : wpAny (model prog w) A (getAttr? (.ref x) "__class__") Q E s := by
  obtain ⟨hp, g, dr, t, os⟩ := s
  have LT := I.type (M := model prog w)
  have LA := looks_findIn (M := model prog w) X C.hg
  have LB := looks_findIn (M := model prog w) X C.hk
  have LF := looks_find (M := model prog w) X I hf
  have isB : Looks (model prog w) hp (isInstance (.ref x) (.type "BaseException")) true := LT.andThen (looks_subIn X C.hs)
  have q0 : (false && onTheHeap (Value.builtin "BaseException.__getattribute__")) = false := rfl
  have q2 : (Value.builtin "BaseException.__getattribute__" == Value.builtin "object.__getattribute__") = false := by decide +kernel
  have q1 : (onTheHeap (Value.ref D) && Value.builtin "BaseException.__getattribute__" == Value.builtin "object.__getattribute__") = false := by rw [q2]; rfl
  unfold getAttr? getAttrBy? getAttrBy
  refine wpAny_bind (wpAny_mkText (wpAny_bind (wpAny_attempt (wpAny_holding (wpAny_bind (LT.at (wpAny_bind (LA.at ?_))))))))
  show wpAny _ _ (if (onTheHeap (Value.ref D) && Value.builtin "BaseException.__getattribute__" == Value.builtin "object.__getattribute__") = true then _ else _) _ _ _
  rw [q1, if_neg Bool.false_ne_true]
  unfold getAttrByItsOwn hookBefore
  refine wpAny_bind ?_
  rw [if_pos (show onTheHeap (Value.ref D) = true from rfl)]
  refine LB.at (wpAny_bind (wpAny_attempt (wpAny_holding ?_)))
  unfold callGetattribute
  rw [q0, if_neg Bool.false_ne_true]
  unfold boundAndCalled
  rw [PySem.F.excAttr_ValueError.ga.bind (.ref x)]
  refine wpAny_bind (wpAny_pure ?_)
  show wpAny _ _ (call (.builtin "BaseException.__getattribute__") [.ref x, .str "__class__" t]) _ _ _
  refine wpAny_call (codeAny_call_builtin PySem.F.excAttr_ValueError.ga.plain PySem.F.entry_bexc_ga ?_)
  refine @check_slot (model prog w) _ _ ⟨hp, g, dr, t + 1, os⟩ "BaseException.__getattribute__" "BaseException" "__getattribute__" (.ref x) [.str "__class__" t] [] _ (by decide +kernel) (by decide +kernel) isB (PySem.F.args_bexc_ga (.ref x) (.str "__class__" t)) ?_
  unfold Builtin.«object.__getattribute__»
  refine wpAny_bind (wpAny_of_eq (a := ((Value.ref x : Value), [Value.str "__class__" t])) (by first | rfl | (simp only [slotArgs]; rfl)) (wpAny_bind (wpAny_pure (wpAny_bind (LT.at (wpAny_bind (LF.at ?_)))))))
  show wpAny _ _ (holding [Value.builtin "object.__class__"] (call (.builtin "getset_descriptor.__get__") [.builtin "object.__class__", .ref x, .ref D]) >>= ret) _ _ _
  refine wpAny_bind (wpAny_holding (wpAny_call (class_get (s := ⟨hp, g, dr, t + 1, os⟩) (ox := ox) (od := od) X I C.hm (wpAny_pure ?_))))
  show wpAny _ _ (handedOut (.ref D)) _ _ _
  rw [handedOut_of (v := .ref D) rfl]
  first
    | exact wpAny_pure (wpAny_pure h)
    | exact wpAny_pure h
    | exact wpAny_pure (wpAny_bind (wpAny_pure (wpAny_pure h)))
theorem kxc_kit (C : L2.ExcC K D) (hf : findObj K D od "__class__" = some (.bind (.builtin "getset_descriptor.__get__") (.builtin "object.__class__"))) : KitX K (.ref x) (.ref D) (fun h => InstAt h x ox D od) where
  ty := fun _ _ _ I => I.type
  it := fun _ _ X _ => by
    obtain ⟨cd0, hc0, _⟩ := any_some C.hd
    unfold clsIn at hc0
    split at hc0
    · rename_i _ _ _ _ ho
      intro A' Q' E' s' k q
      unfold isType loadHead
      exact wpAny_bind (wpAny_loadPart (k _ _ (X _ _ ho)) (wpAny_pure q))
    · cases hc0
  ne := fun h tp dd its n sl X htp => by
    obtain ⟨cd0, hc0, _⟩ := any_some C.hd
    refine Bool.eq_false_iff.mpr fun q => ?_
    have e : D = tp := Value.ref.inj (beq_iff_eq.mp q)
    subst e
    unfold clsIn at hc0
    split at hc0
    · rename_i _ _ _ _ ho
      have z := (X _ _ ho).symm.trans htp
      cases z
    · cases hc0
  ca := fun X I k => kxc_class C hf X I k
end
end PySem.W
namespace L2
open PySem PySem.Spec PyProof.Rows
section
variable {X : Cx} {pins : List (Addr × Obj)} {σ : St} {H : Hp} {s : Shared}
theorem exh_inst {K : PySem.W.Frag} {a D : Addr} {d : Option Addr} {fs : List (Str × V)} (I : Inv X pins σ H s) (ea : H a = some (exh a (.ref D) d)) (ed : ∀ dd, d = some dd → H dd = some (.xd fs)) :
    ∃ (oe : Obj) (od : Option Obj), PySem.W.InstAt s.heap a oe D od ∧ (d.isSome = od.isSome) ∧ ∀ name, d.isSome = true → ∃ m : Str → Option Value, PySem.W.lookIn name (od.getD oe) = some (m name) ∧ ∀ f, RelO (fs.lookup f) (m f) := by
  obtain ⟨oe, hoe, ⟨z1, z2⟩, vs, hd⟩ := exh_at I.hok ea
  have nc : PySem.W.notCls oe = true := by unfold PySem.W.notCls; rw [hd] <;> rfl
  cases d with
  | none => exact ⟨oe, none, ⟨hoe, z1, nc, by rw [z2]; exact True.intro⟩, rfl, fun _ z => nomatch z⟩
  | some dd =>
    have hx : ObjOk X.prog X.w H s.heap dd (.xd fs) := I.hok dd _ (ed dd rfl)
    obtain ⟨mA, hns, hr⟩ := hx
    obtain ⟨od, ho, hl⟩ := lookIn_ns hns
    exact ⟨oe, some od, ⟨hoe, z1, nc, by rw [z2]; exact ho⟩, rfl, fun name _ => ⟨mA, hl name, hr⟩⟩
end
/-- isinstance(e, c), e an error that was caught and kept -/
def rIsK (K : PySem.W.Frag) : List V → Hp → VK → Prop := fun xs H Q => ∃ (a D dd : Addr) (fs : List (Str × V)) (c : V) (cv : Value) (b : Bool), xs = [.ref a, c] ∧ ClsV c cv ∧ H a = some (exh a (.ref D) (some dd)) ∧ H dd = some (.xd fs) ∧ ExcC K D ∧ PySem.W.kitOne K (.ref D) cv = some b ∧ Q (.bl b) H
theorem call_isK {X : Cx} : CallR X (.builtin "isinstance") (rIsK X.K) := by
  intro pins s σ H xs us Q I r h
  obtain ⟨a, D, dd, fs, c, cv, b, rfl, hcv, ea, ed, C, e, q⟩ := h
  obtain ⟨u1, u2, rfl, r1, r2⟩ := vals2 r
  cases (show u1 = Value.ref a from r1)
  have ec := hcv.eq r2
  subst ec
  obtain ⟨oe, od, J, hd, _⟩ := exh_inst (K := X.K) I ea (fun d' e' => by cases e'; exact ed)
  cases od with
  | none => cases hd
  | some od =>
    have hf := PySem.W.findObj_data (K := X.K) (C := D) (od := od) (name := "__class__") (by obtain ⟨cd, hc, _⟩ := PySem.W.any_some C.hd; rw [hc]; rfl) C.ha C.hn C.ht
    exact PySem.W.kia_one (PySem.W.kxc_kit C hf) I.kIn J e (fun z => nomatch z) fun tk => ⟨.bl b, H, I.tok tk, rfl, q⟩
/-- e.f, e such an error -/
def tXk (K : PySem.W.Frag) (te : TE) (f : Str) : TE := fun σ H Q => te σ H fun x H1 => ∃ (a C dd : Addr) (fs : List (Str × V)) (v : V), x = .ref a ∧ H1 a = some (exh a (.ref C) (some dd)) ∧ H1 dd = some (.xd fs) ∧ XfC K C ∧ PySem.W.findIn K (.ref C) f = some none ∧ fs.lookup f = some v ∧ Q v H1
theorem pe_xk {X : Cx} {e : Expr} {te : TE} {pos : Pos} {n : Str} (he : PE X e te) (hb : attributeBase e n X.env (eval e X.env) = eval e X.env := by rfl) : PE X (.Attribute e n pos) (tXk X.K te n) := by
  refine ⟨fun pins s σ H Q I h => attr_of hb (thn (he.run pins s σ H _ I h) fun u s1 hh => ?_)⟩
  obtain ⟨x, H1, I1, rx, a, C, dd, fs, v, ex, ea, ed, T, hno, l, q⟩ := hh
  subst ex
  obtain rfl : u = Value.ref a := rx
  obtain ⟨oe, od, J, hd, hl⟩ := exh_inst (K := X.K) I1 ea (fun d' e' => by cases e'; exact ed)
  cases od with
  | none => cases hd
  | some od =>
    obtain ⟨m, h1, h2⟩ := hl n rfl
    obtain ⟨u, hu, ru⟩ := RelO.some_of (v := v) (o := m n) (by rw [← l]; exact h2 n)
    exact HandSPX.exc_get I1.kIn J T.ga T.gg T.exC (PySem.W.findObj_own T.hdC hno rfl (by rw [← hu]; exact h1)) (handed_of ru) ⟨v, H1, I1.tok _, ru, q⟩
end L2

/-! repr of data: it asks which reprs are under way; a def's promise where none is. -/
namespace L2
open PySem PySem.Spec PyProof.Rows
/-- a promise that holds where no repr is under way -/
structure FnG (P : Program) (w : World) (K : PySem.W.Frag) (mg : Str → Option Value) (base : Heap) (CX : CXT) (k : Nat) (f : Addr) (fd : FuncData) (ps : List Str) (sp : Sp) : Prop where
  len : ∀ vs H Q E, sp vs H Q E → vs.length = ps.length
  run : ∀ (A : Around) (outer : List Env) (s : Shared) (H : Hp) (args : Args) (us : List Value) (vs : List V) (Q : VK) (E : XK), Room k A → A.guards = some [] → Env0 P w K mg base A outer s H → BindsTo s fd args (ps.zip us) → Vals vs us → sp vs H Q E →
    codeAny (model P w) A (.call (.ref f) args) (CR CX outer P w H s Q E) s
theorem FnOk.g {P : Program} {w : World} {K : PySem.W.Frag} {mg : Str → Option Value} {base : Heap} {CX : CXT} {k : Nat} {f : Addr} {fd : FuncData} {ps : List Str} {sp : Sp} (F : FnOk P w K mg base CX k f fd ps sp) : FnG P w K mg base CX k f fd ps sp :=
  ⟨F.len, fun A outer s H args us vs Q E hr _ => F.run A outer s H args us vs Q E hr⟩
section
variable {P : Program} {w : World} {K : PySem.W.Frag} {mg : Str → Option Value} {base : Heap}
theorem Fun.okG {x qual : Str} {st : Stmt} {f : Addr} {fd : FuncData} {N ps : List Str} {k : Nat} {sp : Sp} (F : Fun K x qual st f fd) (S : FnScope N ps (defScope st)) (len : ∀ vs H Q E, sp vs H Q E → vs.length = ps.length)
    (hbody : ∀ (cdv : Value) (A : Around) (outer : List Env) (s : Shared) (H : Hp) (vs : List V) (Q : VK) (E : XK), Room k (A.deeper (envOfC qual (defScope st) s.heap.objs.size f cdv)) → A.guards = some [] → sp vs H Q E →
      ∃ t, PSs (cxOf CX0 P w K mg base N qual (defScope st) f cdv A outer s H E).nox (defBody st) t ∧ t { nx := fun _ H' => Q .non H', rt := Q } (start N vs) H) : FnG P w K mg base CX0 (k + 1) f fd ps sp := by
  obtain ⟨oc, od, kV, doc, pm, an, cdv, ct, osl, rfl, lk, hcd⟩ := F.ex
  refine ⟨len, fun A outer s H args us vs Q E hr hg e0 hb r hsp => LamX.run_ofS lk hcd S hr e0 hb r (len _ _ _ _ hsp) fun hr' => ?_⟩
  obtain ⟨t, h, q⟩ := hbody cdv A outer s H vs Q E hr' hg hsp
  exact ⟨t, h.nox, q⟩
end
section
variable {X : Cx} {CX : CXT} {k : Nat} {f : Addr} {fd : FuncData} {ps : List Str} {sp : Sp} {E : XK} {x : Str} {ds : List Value} {dvs : List V} {e : Expr} {es : List Expr} {t : TA} {p pos : Pos}
theorem run_fnG {pins : List (Addr × Obj)} {σ : St} {H : Hp} {s : Shared} {Q : VK} {us : List Value} {vs : List V} (hG : X.A.guards = some []) (F : FnG X.prog X.w X.K X.mg X.base CX k f fd ps sp) (hr : Room k X.A) (hb : Binds X.K fd ps ds) (hd : Vals dvs ds)
    (hx : Passes CX X E) (I : Inv X pins σ H s) (r : Vals vs us) (h : sp (vs ++ dvs) H Q E) : wpAny (model X.prog X.w) X.A (call (.ref f) us) (EP X pins σ Q) X.xe s := by
  have rr : Vals (vs ++ dvs) (us ++ ds) := r.append hd
  have hlen : (us ++ ds).length = ps.length := by rw [← rr.length]; exact F.len _ _ _ _ h
  refine wpAny_call (codeAny_mono (F.run X.A X.stack s H ⟨us, []⟩ (us ++ ds) (vs ++ dvs) Q E hr hG I.env0 (hb s us I.kIn hlen) rr h) fun r s' hq => ?_)
  cases r with
  | error e => exact hx pins σ H s e s' I hq
  | ok fl =>
    cases fl with
    | ret u => exact I.after hq
    | next => exact False.elim hq
    | brk => exact False.elim hq
    | cont => exact False.elim hq
theorem pe_callG (hG : X.A.guards = some []) (F : FnG X.prog X.w X.K X.mg X.base CX k f fd ps sp) (hr : Room k X.A) (hg : Gl X x) (hm : X.mg x = some (.ref f)) (hk : PySem.W.keepIn X.K (.ref f) = true) (hb : Binds X.K fd ps ds) (hd : Vals dvs ds) (hx : Passes CX X E)
    (ha : PA X (e :: es) t) (hdb : (x == ("__debug__" : Str)) = false := by decide) (he : starEach (e :: es) X.env = (false, eval e X.env) :: starEach es X.env := by rfl) (hpl : (backTo pos (starEach es X.env)).any (·.1) = false := by rfl) :
    PE X (.Call (.Name x p) (e :: es) [] pos) (tCall sp dvs E t) := by
  refine ⟨fun pins s σ H Q I h => wpAny_Call_Name_kw (ld_glob I hg hm ?_ hdb)⟩
  refine PySem.W.callWith_K (h₀ := X.base) I.ok.mod.kin hk (thn (ha.run pos pins s σ H _ I h) fun us s1 ⟨vs, H1, I1, r, q⟩ => ⟨I1.kIn, run_fnG hG F hr hb hd hx I1 r q⟩) he hpl
/-- repr of a list or tuple of data -/
def rRepr (K : PySem.W.Frag) : List V → Hp → VK → Prop := fun xs H Q => ∃ (a : Addr) (d : PyData), xs = [.ref a] ∧ Dp K H (.ref a) d ∧ d.showable = true ∧ d.hasDict = false ∧ d.depth ≤ 64 ∧ d.shown.length ≤ sizeLine ∧ Q (.str d.shown) H
theorem c_repr (hG : X.A.guards = some []) (hu : X.A.units + 128 < cLine) : CallR X (.builtin "repr") (rRepr X.K) := by
  intro pins s σ H xs us Q I r h
  obtain ⟨a, d, rfl, hd, h1, h2, h3, h4, q⟩ := h
  obtain ⟨u, rfl, rx⟩ := vals1 r
  cases (show u = Value.ref a from rx)
  obtain ⟨as, hr⟩ := Dp.reads I d _ _ hd rx
  refine repr_of_reads' hr h1 (fun z => by rw [h2] at z; cases z) hG (by omega) (fun _ _ z => z) (fun h' u tk hk => ?_) h4
  exact ⟨.str d.shown, H, I.kept hk, ⟨u, rfl⟩, q⟩
end
end L2

namespace LamX
open PySem PySem.Spec PyProof.Rows L2
theorem law_callG {P : Program} {w : World} {K : PySem.W.Frag} {mg mBlt : Str → Option Value} {CX : CXT} {k : Nat} {fLaw a : Addr} {tabs : List (Addr × Addr)} {fdLaw : FuncData} {x : Str} {spc : Sp} {s₁ : Shared} {items : List Value} {nums : List Int}
    (KH : K.In s₁.heap) (nsG : s₁.heap.Ns mainGlobals mg) (hB2 : s₁.heap.Ns builtinsNs mBlt) (bltB : ∀ x : Str, x ≠ "__name__" → mBlt x = bootBuiltins x) (limG : s₁.heap.NoLimit) (gnE : s₁.gens = #[])
    (tabE : ∀ p ∈ tabs, s₁.heap.get? p.2 = some { cls := .none, data := .fields #[] }) (tabK : ∀ p ∈ tabs, K.lookup p.2 = none) (cdE : ∀ p ∈ tabs, PySem.W.CodeHd s₁.heap p.1 p.2)
    (bmE : ∃ (bmA : Addr) (obj : Obj), mg "__builtins__" = some (.ref bmA) ∧ bmA ≠ builtinsNs ∧ s₁.heap.get? bmA = some obj ∧ obj.cls = .type "module" ∧ obj.dict = some builtinsNs ∧ obj.data = .plain)
    (scE : s₁.heap.get? a = some { cls := .type "list", data := .seq items.toArray }) (inE : IntsAre items nums) (lnE : nums.length ≤ sizeLine) (rmE : Room k callerA)
    (FF : ∀ base : Heap, K.In base → base.Ns mainGlobals mg → (∀ p ∈ tabs, TabB base mg p.1 p.2) → L2.FnG P w K mg base CX k fLaw fdLaw [x] spc) (bdE : ∀ (s : Shared) (u : Value), BindsTo s fdLaw ⟨[u], []⟩ [(x, u)])
    (spE : ∀ H : Hp, (∀ p ∈ tabs, H p.2 = some (.tbl #[])) → SqL K H a (nums.map V.int) → spc [.ref a] H (fun v _ => v = .bl true) fun _ _ _ => False)
    (cxE : ∀ H e s', CX [] H s₁ (fun _ _ _ => False) e s' → False) :
    codeAny (model P w) callerA (.call (.ref fLaw) ⟨[.ref a], []⟩) (fun r s' => r = .ok (.ret (.bool true)) ∧ OldK s₁.heap s'.heap ∧ s'.os = s₁.os ∧ AllBare s'.gens) s₁ := by
  have rvs := vals_ints inE
  have lenW := inE.length
  have isTb : ∀ b : Addr, b ∈ tabs.map (·.2) → s₁.heap.get? b = some { cls := .none, data := .fields #[] } := fun b hB2 => by
    obtain ⟨p, memP, e⟩ := List.mem_map.mp hB2
    rw [← e]
    exact tabE p memP
  have notTb : a ∉ tabs.map (·.2) := fun zq => by
    have qq := isTb a zq
    rw [scE] at qq
    have z' : Data.seq items.toArray _ = Data.fields #[] := congrArg Obj.data (Option.some.inj qq)
    cases z'
  have inTb : ∀ p ∈ tabs, p.2 ∈ tabs.map (·.2) := fun p memP => List.mem_map.mpr ⟨p, memP, rfl⟩
  -- from an abstract heap in which nothing but the script and the tables may be tracked
  have main0 : ∀ H : Hp, (∀ p ∈ tabs, H p.2 = some (.tbl #[])) → (∀ b, H b = none ∨ b ∈ tabs.map (·.2) ∨ ∃ o xs, H b = some (.frz o (.lst xs))) → SqL K H a (nums.map V.int) → HOk P w H s₁.heap → (∀ b, H b ≠ none → b = a ∨ b ∈ tabs.map (·.2)) → (H a ≠ none → K.lookup a = none) →
      codeAny (model P w) callerA (.call (.ref fLaw) ⟨[.ref a], []⟩) (fun r s' => r = .ok (.ret (.bool true)) ∧ OldK s₁.heap s'.heap ∧ s'.os = s₁.os ∧ AllBare s'.gens) s₁ := by
    intro H Htab Hone Hscr Hok0 Hall HKn
    have toBase : ∀ {b : Addr} {o : Obj}, s₁.heap.get? b = some o → H b = none → (hidT s₁.heap H).get? b = some o := fun e n => hidT_get e n
    have notD : ∀ {b : Addr} {o : Obj}, s₁.heap.get? b = some o → (∀ items n, o.data ≠ .seq items n) → o.data ≠ .fields #[] → H b = none := fun {b o} e h11 hh => by
      cases qq : H b with
      | none => rfl
      | some u =>
        rcases Hall b (by rw [qq]; simp) with e' | e'
        · rw [e', scE] at e
          cases e
          exact (h11 _ _ rfl).elim
        · rw [isTb b e'] at e
          cases e
          exact (hh rfl).elim
    have notA : ∀ {b : Addr} {o : Obj} {es : Array DictEntry} {epp : Nat}, s₁.heap.get? b = some o → o.data = .dict es epp → H b = none := fun {b o es epp} e d => by
      refine notD e (fun items n zq => ?_) fun zq => ?_
      · rw [d] at zq
        cases zq
      · rw [d] at zq
        cases zq
    have nsB0 : ∀ {b : Addr} {m : Str → Option Value}, s₁.heap.Ns b m → (hidT s₁.heap H).Ns b m := fun {b m} ⟨o, es, epp, e, d, r⟩ => ⟨o, es, epp, toBase e (notA e d), d, r⟩
    have KBase : K.In (hidT s₁.heap H) := fun b o e => toBase (KH b o e) (by
      cases qq : H b with
      | none => rfl
      | some u =>
        rcases Hall b (by rw [qq]; simp) with e' | e'
        · rw [e'] at e qq
          rw [HKn (by rw [qq]; simp)] at e
          cases e
        · obtain ⟨p, memP, epp⟩ := List.mem_map.mp e'
          rw [← epp, tabK p memP] at e
          cases e)
    have modB : L2.Mod K mg (hidT s₁.heap H) := ⟨KBase, nsB0 nsG, ⟨mBlt, nsB0 hB2, bltB⟩, let ⟨mc, h11, hh⟩ := limG; ⟨mc, nsB0 h11, hh⟩⟩
    have tabB0 : ∀ p ∈ tabs, TabB (hidT s₁.heap H) mg p.1 p.2 := fun p memP => by
      have hTp := tabE p memP
      refine ⟨?_, ?_, fun zq => ?_⟩
      · obtain ⟨o, uus, file, tf, flags, tg, inF, text, tt, e1, r1, r2, r3, r4, r5, r6, r7, r8, hne⟩ := cdE p memP
        refine ⟨o, uus, file, tf, flags, tg, inF, text, tt, toBase e1 (notD e1 (fun items n zq => ?_) fun zq => ?_), r1, r2, r3, r4, r5, r6, r7, r8, hne⟩
        · rw [r2] at zq
          cases zq
        · rw [r2] at zq
          cases zq
          simp at r3
      · obtain ⟨bmA, obj, b1, b2, b3, b4, b5, b6⟩ := bmE
        have nG : bmA ≠ mainGlobals := fun qq => by
          obtain ⟨o, es, epp, e, hd, _⟩ := nsG
          rw [qq, e] at b3
          cases b3
          rw [hd] at b6
          cases b6
        have nP : bmA ≠ p.2 := fun qq => by
          rw [qq, hTp] at b3
          cases b3
          cases b6
        refine ⟨bmA, obj, b1, b2, nG, nP, toBase b3 (notD b3 (fun items n zq => ?_) fun zq => ?_), b4, b5, b6⟩
        · rw [b6] at zq
          cases zq
        · rw [b6] at zq
          cases zq
      · obtain ⟨o, es, epp, e, hd, _⟩ := nsG
        rw [zq, hTp] at e
        cases e
        cases hd
    have env0 : Env0 P w K mg (hidT s₁.heap H) callerA [] s₁ H := ⟨rfl, modB, fun b o e => of_hidT e, Nat.le_of_eq (hidT_size _ _), trivial, fun b hB2 => absurd (show b ∈ ([] : List Addr) from hB2) (by simp), Hok0, .of_eq gnE⟩
    refine codeAny_mono ((FF _ KBase (nsB0 nsG) tabB0).run callerA [] s₁ H ⟨[.ref a], []⟩ [.ref a] [.ref a] _ _ rmE rfl env0 (bdE s₁ (.ref a)) (.cons rfl .nil) (spE H Htab Hscr)) fun r s' h => ?_
    cases r with
    | error e => exact (cxE H e s' h).elim
    | ok fl =>
      cases fl with
      | next => exact False.elim h
      | brk => exact False.elim h
      | cont => exact False.elim h
      | ret u =>
        obtain ⟨v, H', osE, bareE, unk, Hok1, r', qq⟩ := h
        have q' : v = .bl true := qq
        subst q'
        obtain rfl : u = Value.bool true := r'
        have kept0 : ∀ b o, b ∉ tabs.map (·.2) → s₁.heap.get? b = some o → s'.heap.get? b = some o := fun b o nb e => by
          cases qq : H b with
          | none => exact unk.keep b o e qq (by intro zq; exact absurd (show b ∈ ([] : List Addr) from zq) (by simp)) (by simp)
          | some u =>
            rcases Hone b with zq | zq | ⟨obj, xs, zq⟩
            · rw [qq] at zq; cases zq
            · exact absurd zq nb
            · have zz := unk.frzs b obj _ zq
              obtain ⟨e1, _⟩ := Hok0 b _ zq
              obtain ⟨ee, _⟩ := Hok1 b _ zz
              rw [e] at e1; cases e1
              exact ee
        have grew : ∀ p ∈ tabs, ∃ rest : Array Value, s'.heap.get? p.2 = some { cls := .none, data := .fields rest } := fun p memP => by
          obtain ⟨rest, zq⟩ := unk.tbls p.2 #[] (Htab p memP)
          exact ⟨_, Hok1 p.2 _ zq⟩
        refine ⟨rfl, ⟨fun b o e => ?_, fun b o e => ?_⟩, osE, bareE⟩
        · by_cases hB2 : b ∈ tabs.map (·.2)
          · obtain ⟨p, memP, epp⟩ := List.mem_map.mp hB2
            obtain ⟨rest, hmo⟩ := grew p memP
            rw [← epp] at e ⊢
            rw [tabE p memP] at e
            cases e
            exact .inr (.inl ⟨((cdE p memP).tab (tabE p memP)).isCodeTable, rfl, #[], rest, rfl, by rw [Array.empty_append]; exact hmo⟩)
          · exact .inl (kept0 b o hB2 e)
        · by_cases hB2 : b ∈ tabs.map (·.2)
          · obtain ⟨p, memP, epp⟩ := List.mem_map.mp hB2
            obtain ⟨rest, hmo⟩ := grew p memP
            rw [← epp]
            exact ⟨_, hmo⟩
          · exact ⟨o, kept0 b o hB2 e⟩
  cases lookE : K.lookup a with
  | some o =>
    have e := KH a o lookE
    rw [scE] at e
    cases e
    refine main0 (fun b => if b ∈ tabs.map (·.2) then some (.tbl #[]) else none) (fun p memP => if_pos (inTb p memP)) (fun b => ?_) (.inr ⟨_, items.toArray, _, lookE, rfl, rfl, rfl, by rw [List.size_toArray, lenW]; exact lnE, by simpa using rvs⟩) (fun b u zq => ?_) (fun b zq => ?_) fun zq => absurd (show (if a ∈ tabs.map (·.2) then some (HO.tbl #[]) else none) = none from if_neg notTb) zq
    · by_cases hB2 : b ∈ tabs.map (·.2)
      · exact .inr (.inl hB2)
      · exact .inl (if_neg hB2)
    · by_cases hB2 : b ∈ tabs.map (·.2)
      · have z' := (if_pos hB2).symm.trans zq
        cases z'
        exact isTb b hB2
      · have z' := (if_neg hB2).symm.trans zq
        cases z'
    · by_cases hB2 : b ∈ tabs.map (·.2)
      · exact .inr hB2
      · exact absurd (if_neg hB2) zq
  | none =>
    refine main0 (fun b => if b = a then some (.frz { cls := .type "list", data := .seq items.toArray } (.lst (nums.map V.int))) else if b ∈ tabs.map (·.2) then some (.tbl #[]) else none) (fun p memP => (if_neg (show ¬ p.2 = a from fun zq => notTb (by rw [← zq]; exact inTb p memP))).trans (if_pos (inTb p memP))) (fun b => ?_)
      (.inl (.inr ⟨{ cls := .type "list", data := .seq items.toArray }, if_pos rfl⟩)) (fun b u zq => ?_) (fun b zq => ?_) fun _ => lookE
    · by_cases hB2 : b = a
      · exact .inr (.inr ⟨_, _, if_pos hB2⟩)
      · by_cases hb2 : b ∈ tabs.map (·.2)
        · exact .inr (.inl hb2)
        · exact .inl ((if_neg hB2).trans (if_neg hb2))
    · by_cases hB2 : b = a
      · have z' := (if_pos hB2).symm.trans zq
        cases z'
        rw [hB2]
        exact ⟨scE, by rw [List.length_map]; exact lnE, items, _, rvs, scE⟩
      · have z1 := (if_neg hB2).symm.trans zq
        by_cases hb2 : b ∈ tabs.map (·.2)
        · have z' := (if_pos hb2).symm.trans z1
          cases z'
          exact isTb b hb2
        · have z' := (if_neg hb2).symm.trans z1
          cases z'
    · by_cases hB2 : b = a
      · exact .inl hB2
      · by_cases hb2 : b ∈ tabs.map (·.2)
        · exact .inr hb2
        · exact absurd ((if_neg hB2).trans (if_neg hb2)) zq
/-- what is known of the law's promise at the head's heap h -/
def LawAtG (l : PySem.W.OpenLaw) (w : World) (K : PySem.W.Frag) (CX : CXT) (k n : Nat) (x : Str) (mg : Str → Option Value) (fLaw : Addr) (h : Heap) : Prop :=
  ∃ (fdLaw : FuncData) (tabs : List (Addr × Addr)) (spc : Sp), (∀ p ∈ tabs, h.get? p.2 = some { cls := .none, data := .fields #[] }) ∧ (∀ p ∈ tabs, K.lookup p.2 = none) ∧ (∀ p ∈ tabs, PySem.W.CodeHd h p.1 p.2) ∧ (∀ (s : Shared) (u : Value), BindsTo s fdLaw ⟨[u], []⟩ [(x, u)]) ∧
    (∀ (H : Hp) (a : Addr) (nums : List Int), nums.length ≤ n → (∀ zq ∈ nums, Builtin.Int.intBits zq ≤ 1048576) → (∀ p ∈ tabs, H p.2 = some (.tbl #[])) → SqL K H a (nums.map V.int) → spc [.ref a] H (fun v _ => v = .bl true) fun _ _ _ => False) ∧
    ∀ base : Heap, K.In base → base.Ns mainGlobals mg → (∀ p ∈ tabs, TabB base mg p.1 p.2) → L2.FnG l.prog w K mg base CX k fLaw fdLaw [x] spc
theorem walk_ofG {l : PySem.W.OpenLaw} {n k : Nat} {qq : Program} {loose : List Str} {XP : (Str → Option Value) → Heap → Prop} {YP : World → Heap → Prop} {d : DefRec} {K : Params → PySem.W.Frag} {CX : World → CXT} {x : Str}
    (hn : l.most = some n) (hn2 : n ≤ sizeLine) (hdf : d.params.defaults = []) (rmE : Room k callerA) (hY : ∀ (w : World) (h : Heap), YP w h → (K w.params).In h)
    (FF : ∀ (w : World) (mg : Str → Option Value) (fLaw : Addr) (h : Heap), YP w h → (K w.params).In h → h.Ns mainGlobals mg → mg d.name = some (.ref fLaw) → LawAtG l w (K w.params) (CX w) k n x mg fLaw h)
    (cxE : ∀ (w : World) (H : Hp) (s : Shared) (e : Value) (s' : Shared), CX w [] H s (fun _ _ _ => False) e s' → False) :
    PySem.W.WalkO qq loose XP YP l.row.toRowW d [] (fun f items => PySem.call f items) := by
  refine Att.attach_callB hn hdf fun w s₀ s₁ mg mBlt fLaw o pm cd doc a items nums G Y ho hd hcd hmg hobj hints hlen hbits gnE => ?_
  have KH := hY w _ Y
  obtain ⟨fdLaw, tabs, spc, tabE, tabK, cdE, hB2, spE, hF⟩ := FF w mg fLaw _ Y KH G.T.g hmg
  exact law_callG KH G.T.g G.T.b G.T.builtins G.T.nolimit gnE tabE tabK cdE G.T.bmain hobj hints (Nat.le_trans hlen hn2) rmE hF hB2 (fun H Htab Hscr => spE H a nums hlen hbits Htab Hscr) fun H e s' => cxE w H s₁ e s'
end LamX

/-! len(x), str(x) of an own class. -/
namespace L2
open PySem PySem.Spec PyProof.Rows
section
variable {X : Cx} {CX : CXT} {k : Nat} {f C : Addr} {fd : FuncData} {ps : List Str} {sp : Sp}
/-- a special method of the class -/
structure SpM (K : PySem.W.Frag) (C f : Addr) (name : Str) : Prop where
  hs : PySem.W.findIn K (.ref C) name = some (some (.ref f))
  hf : PySem.W.isFn K (.ref f) = true
def rLenO (C : Addr) (sp : Sp) : List V → Hp → VK → Prop := fun xs H Q => ∃ a dx fs, xs = [.ref a] ∧ H a = some (.ins C dx fs) ∧ sp [.ref a] H (fun v H' => ∃ n : Int, v = .int n ∧ (0 ≤ n ∧ n < 2 ^ 63) ∧ Q (.int n) H') (fun _ _ _ => False)
theorem c_lenO (M : SpM X.K C f "__len__") (F : FnOk X.prog X.w X.K X.mg X.base CX k f fd ps sp) (hr : Room (k + 1) X.A) (hb : Binds X.K fd ps []) (hx : Passes CX X (fun _ _ _ => False)) : CallR X (.builtin "len") (rLenO C sp) := by
  intro pins s σ H xs us Q I r h
  obtain ⟨a, dx, fs, rfl, ha, hq⟩ := h
  obtain ⟨u, rfl, rx⟩ := vals1 r
  cases (show u = Value.ref a from rx)
  obtain ⟨_, J, _⟩ := ins_get I.hok ha
  obtain ⟨_, J, _⟩ := J.look
  obtain ⟨_, hF⟩ := I.fr
  refine PySem.W.len_K hF I.ok.mod.kin J M.hs M.hf (wpAny_mono (callA (A := X.A.in1) (vs := [.ref a]) F hr.in1 rfl hb hx I (.cons rfl .nil) hq) (fun z s' hz => ?_) fun _ _ z => z)
  obtain ⟨v', H', I', rv, n, e, hn, q⟩ := hz
  subst e
  obtain ⟨t, rfl⟩ := (show ∃ t, z = Value.int n t from rv)
  exact ⟨hn, .int n, H', I'.tok _, ⟨_, rfl⟩, q⟩
def rStrO (C : Addr) (sp : Sp) : List V → Hp → VK → Prop := fun xs H Q => ∃ a dx fs, xs = [.ref a] ∧ H a = some (.ins C dx fs) ∧ sp [.ref a] H (fun v H' => ∃ x : Str, v = .str x ∧ Q (.str x) H') (fun _ _ _ => False)
theorem c_strO (M : SpM X.K C f "__str__") (F : FnOk X.prog X.w X.K X.mg X.base CX k f fd ps sp) (hr : Room (k + 2) X.A) (hb : Binds X.K fd ps []) (hx : Passes CX X (fun _ _ _ => False)) : CallR X (.type "str") (rStrO C sp) := by
  intro pins s σ H xs us Q I r h
  obtain ⟨a, dx, fs, rfl, ha, hq⟩ := h
  obtain ⟨u, rfl, rx⟩ := vals1 r
  cases (show u = Value.ref a from rx)
  obtain ⟨_, J, _⟩ := ins_get I.hok ha
  obtain ⟨_, J, _⟩ := J.look
  have hu := hr.un
  refine PySem.W.kso_call (by show X.A.units + 1 + 1 < cLine; omega) I.kIn J M.hs M.hf (wpAny_mono (callA (A := X.A.in1.in1) (vs := [.ref a]) F hr.in1.in1 rfl hb hx I (.cons rfl .nil) hq) (fun z s' hz => ?_) fun _ _ z => z)
  obtain ⟨v', H', I', rv, x, e, q⟩ := hz
  subst e
  obtain ⟨t, rfl⟩ := (show ∃ t, z = Value.str x t from rv)
  exact ⟨.str x, H', I', ⟨_, rfl⟩, q⟩
end
end L2

/-! Abstract rules for own classes, errors, lambdas, pens. -/
namespace L2
open PySem PySem.Spec PyProof.Rows
/-- as Fun.okG, the code object told -/
theorem Fun.okGC {P : Program} {w : World} {K : PySem.W.Frag} {mg : Str → Option Value} {base : Heap} {x qual : Str} {st : Stmt} {f : Addr} {fd : FuncData} {N ps : List Str} {k : Nat} {sp : Sp} (F : Fun K x qual st f fd) (S : FnScope N ps (defScope st)) (len : ∀ vs H Q E, sp vs H Q E → vs.length = ps.length)
    (hb : ∀ (A : Around) (outer : List Env) (s : Shared) (H : Hp) (vs : List V) (Q : VK) (E : XK), Room k (A.deeper (envOfC qual (defScope st) s.heap.objs.size f fd.code)) → A.guards = some [] → sp vs H Q E →
      ∃ t, PSs (cxOf CX0 P w K mg base N qual (defScope st) f fd.code A outer s H E).nox (defBody st) t ∧ t { nx := fun _ H' => Q .non H', rt := Q } (start N vs) H) : FnG P w K mg base CX0 (k + 1) f fd ps sp := by
  obtain ⟨oc, od, kV, doc, pm, an, cdv, ct, osl, rfl, lk, hcd⟩ := F.ex
  refine ⟨len, fun A outer s H args us vs Q E hr hg e0 hbd r hsp => LamX.run_ofS lk hcd S hr e0 hbd r (len _ _ _ _ hsp) fun hr' => ?_⟩
  obtain ⟨t, h, q⟩ := hb A outer s H vs Q E hr' hg hsp
  exact ⟨t, h.nox, q⟩
end L2
namespace AW
open PySem PySem.Spec PyProof.Rows L2 LamX ClX
theorem both_nt {A B : Prop} (h : B) : ((!true) = true → A) ∧ ((!true) = false → B) := ⟨fun z => Bool.noConfusion z, fun _ => h⟩
theorem both_nf {A B : Prop} (h : A) : ((!false) = true → A) ∧ ((!false) = false → B) := ⟨fun _ => h, fun z => Bool.noConfusion z⟩
theorem bor_t {A B : Prop} (h : B) : (true = false → A) ∧ (true = true → B) := ⟨fun z => Bool.noConfusion z, fun _ => h⟩
theorem bor_f {A B : Prop} (h : A) : (false = false → A) ∧ (false = true → B) := ⟨fun _ => h, fun z => Bool.noConfusion z⟩
theorem bor_nt {A B : Prop} (h : A) : ((!true) = false → A) ∧ ((!true) = true → B) := ⟨fun _ => h, fun z => Bool.noConfusion z⟩
theorem bor_nf {A B : Prop} (h : B) : ((!false) = false → A) ∧ ((!false) = true → B) := ⟨fun z => Bool.noConfusion z, fun _ => h⟩
theorem keep2 {kn : Hp} {a q : Addr} {o : HO} {u : HO} (h : a ≠ q) (e : kn a = some u) : upd kn q o a = some u := by
  rw [upd_ne h]
  exact e
section
variable {K : PySem.W.Frag} {H H' : Hp} {x : V} {t : Value}
theorem tyof_ext (e : Ext H H') (h : TyOf K H x t) : TyOf K H' x t := by
  cases h with
  | non => exact .non
  | bl x => exact .bl x
  | int i => exact .int i
  | str x => exact .str x
  | flt x => exact .flt x
  | lst h => exact .lst (e _ _ h)
  | frz h => exact .frz (e _ _ h)
  | tup h => exact .tup (e _ _ h)
  | dK h => exact .dK (e _ _ h)
  | dT h => exact .dT (e _ _ h)
  | ins h a b c d m => exact .ins (e _ _ h) a b c d m
theorem tyx_ext (e : Ext H H') (h : TyX K H x t) : TyX K H' x t := by
  cases h with
  | base b => exact .base (tyof_ext e b)
  | byt b => exact .byt b
  | set h => exact .set (e _ _ h)
  | kList h c => exact .kList h c
  | kTuple h c => exact .kTuple h c
  | kDict h c => exact .kDict h c
  | fTuple h => exact .fTuple (e _ _ h)
  | fDict h => exact .fDict (e _ _ h)
end
/-- the wish of errors -/
abbrev EAK := Value → Option Addr → Hp → Nat → Prop
def ErrOk (c : Cw) (EA : EAK) (E : XK) : Prop := ∀ cls d kn' n' H', EA cls d kn' n' → Good c kn' n' H' → E cls d H'
theorem err_no {c : Cw} {E : XK} : ErrOk c (fun _ _ _ _ => False) E := fun _ _ _ _ _ h => h.elim
abbrev bodyX (c : Cw) (E : XK) : EAK := fun cls d kn n => ∀ H', Good c kn n H' → E cls d H'
theorem err_body {c : Cw} {E : XK} : ErrOk c (bodyX c E) E := fun _ _ _ _ H' h g => h H' g
section
variable {c : Cw} {kn : Hp} {n : Nat} {σ : L2.St} {Q : V → Hp → Nat → Prop} {K : PySem.W.Frag} {E : XK} {EA : EAK} {B : List V → Hp → AK → AXK → Prop}
theorem r_isi {x cv : V} {t u : Value} {b : Bool} (k : ClsV cv u) (ty : TyX K kn x t) (e : PySem.W.kitOne K t u = some b) (q : Q (.bl b) kn n) : W c (rIsi K [x, cv]) kn n Q :=
  fun H g _ f => ⟨x, cv, t, u, b, rfl, k, tyx_ext g.ex ty, e, f _ kn n H q g⟩
theorem w_call {dvs : List V} {t : TA} (hm : MonoX B) (hE : ErrOk c EA E) (h : W c (t σ) kn n fun vs kn1 n1 => B (vs ++ dvs) kn1 (fun v k => Q v k n1) (fun cls d k => EA cls d k n1)) : W c (tCall (liftX B) dvs E t σ) kn n Q :=
  w_callX hm hE h
def rIsN : R2 := fun x y H Q => y = V.non ∧ Q (V.bl (decide (x = V.non))) H
theorem c_isN {X : Cx} : OpR X (compareOp .Is) rIsN := op_isN
theorem r_isN {x : V} (q : Q (.bl (decide (x = V.non))) kn n) : W c (rIsN x .non) kn n Q := fun H g _ k => ⟨rfl, k _ kn n H q g⟩
theorem r_isNt (q : Q (V.bl true) kn n) : W c (rIsN .non .non) kn n Q := fun H g _ k => ⟨rfl, k _ kn n H q g⟩
theorem r_isNr {a : Addr} (q : Q (V.bl false) kn n) : W c (rIsN (.ref a) .non) kn n Q := fun H g _ k => ⟨rfl, k _ kn n H q g⟩
theorem r_neV {v : V} (h : scal v v = true) (q : Q (V.bl false) kn n) : W c (rNe v v) kn n Q := r_ne h (by rw [decide_eq_true rfl]; exact q)
theorem r_eqV {v : V} (h : scal v v = true) (q : Q (V.bl true) kn n) : W c (rEq v v) kn n Q := r_eq h (by rw [decide_eq_true rfl]; exact q)
theorem r_neSelf {x : Str} (q : Q (V.bl false) kn n) : W c (rNe (.str x) (.str x)) kn n Q := r_ne rfl (by rw [decide_eq_true rfl]; exact q)
theorem r_eqSelf {x : Str} (q : Q (V.bl true) kn n) : W c (rEq (.str x) (.str x)) kn n Q := r_eq rfl (by rw [decide_eq_true rfl]; exact q)
theorem w_make {C : Addr} {t : TA} (hm : MonoX B) (hE : ErrOk c EA E) (h : W c (t σ) kn n fun vs kn1 n1 => ∀ x dx, kn1 x = none → kn1 dx = none → dx ≠ x →
    B (.ref x :: vs) (upd (upd kn1 dx (.own x)) x (.ins C dx [])) (fun v kn2 => v = .non ∧ Q (.ref x) kn2 n1) (fun cls d k => EA cls d k n1)) : W c (tMake C (liftX B) [] E t σ) kn n Q :=
  fun H g Q' q => h H g _ fun vs kn1 n1 H1 h1 g1 => fun x dx hx hdx hne => by
    have hx2 : upd H1 dx (.own x) x = none := by rw [upd_ne (Ne.symm hne)]; exact hx
    have z := sp_call (c := c) (n := n1) (Q := fun v kn2 n2 => v = .non ∧ Q (.ref x) kn2 n2) hm hE (h1 x dx (g1.free hx) (g1.free hdx) hne) _ ((g1.new hdx).new hx2) (fun v H2 => v = .non ∧ Q' (.ref x) H2)
      (fun v kn2 n2 H2 hq g2 => ⟨hq.1, q _ _ _ _ hq.2 g2⟩)
    have e : vs ++ [] = vs := List.append_nil vs
    rw [e]
    exact z
theorem w_meth {C : Addr} {m : Str} {ta : TE} {t : TA} (hm : MonoX B) (hE : ErrOk c EA E) (h : W c (ta σ) kn n fun x kn1 n1 => ∃ a dx fs, x = .ref a ∧ kn1 a = some (.ins C dx fs) ∧ fs.lookup m = none ∧
    W c (t σ) kn1 n1 fun vs kn2 n2 => B (.ref a :: vs) kn2 (fun v k => Q v k n2) (fun cls d k => EA cls d k n2)) : W c (tMeth C m (liftX B) [] E ta t σ) kn n Q :=
  fun H g Q' q => h H g _ fun x kn1 n1 H1 h1 g1 => by
    obtain ⟨a, dx, fs, rfl, ha, hl, h2⟩ := h1
    refine ⟨a, dx, fs, rfl, g1.ex _ _ ha, hl, h2 H1 g1 _ fun vs kn2 n2 H2 h3 g2 => ?_⟩
    have e : vs ++ [] = vs := List.append_nil vs
    rw [e]
    exact sp_call hm hE h3 H2 g2 Q' q
theorem r_own {op : Operator} {C a dx : Addr} {fs : List (Str × V)} {y : V} {t : Value} (hm : MonoX B) (hE : ErrOk c EA E) (ha : kn a = some (.ins C dx fs)) (ty : TyX K kn y t) (ot : OpT K op C t)
    (h : B [.ref a, y] kn (fun v k => Q v k n) (fun cls d k => EA cls d k n)) : W c (rOwn K op C (liftX B) E (.ref a) y) kn n Q :=
  fun H g Q' q => ⟨a, dx, fs, t, rfl, g.ex _ _ ha, tyx_ext g.ex ty, ot, sp_call hm hE h H g Q' q⟩
theorem r_eqO {C a dx : Addr} {fs : List (Str × V)} {y : V} {t : Value} {neg : Bool} (hm : MonoX B) (ha : kn a = some (.ins C dx fs)) (ty : TyX K kn y t) (nf : PySem.W.notFirst K C t = true)
    (h : B [.ref a, y] kn (fun v k => ∃ b, v = .bl b ∧ Q (.bl (if neg then !b else b)) k n) (fun _ _ _ => False)) : W c (rEqO K C (liftX B) neg (.ref a) y) kn n Q :=
  fun H g Q' q => ⟨a, dx, fs, t, rfl, g.ex _ _ ha, tyx_ext g.ex ty, nf, sp_call (EA := fun _ _ _ _ => False) (Q := fun v k n => ∃ b, v = .bl b ∧ Q (.bl (if neg then !b else b)) k n) hm err_no h H g _ fun v kn1 n1 H1 ⟨b, e, hq⟩ g1 => ⟨b, e, q _ _ _ _ hq g1⟩⟩
theorem r_lenO {C a dx : Addr} {fs : List (Str × V)} (hm : MonoX B) (ha : kn a = some (.ins C dx fs)) (h : B [.ref a] kn (fun v k => ∃ i : Int, v = .int i ∧ (0 ≤ i ∧ i < 2 ^ 63) ∧ Q (.int i) k n) (fun _ _ _ => False)) : W c (rLenO C (liftX B) [.ref a]) kn n Q :=
  fun H g Q' q => ⟨a, dx, fs, rfl, g.ex _ _ ha, sp_call (EA := fun _ _ _ _ => False) (Q := fun v k n => ∃ i : Int, v = .int i ∧ (0 ≤ i ∧ i < 2 ^ 63) ∧ Q (.int i) k n) hm err_no h H g _ fun v kn1 n1 H1 ⟨b, e, e2, hq⟩ g1 => ⟨b, e, e2, q _ _ _ _ hq g1⟩⟩
theorem r_strO {C a dx : Addr} {fs : List (Str × V)} (hm : MonoX B) (ha : kn a = some (.ins C dx fs)) (h : B [.ref a] kn (fun v k => ∃ x : Str, v = .str x ∧ Q (.str x) k n) (fun _ _ _ => False)) : W c (rStrO C (liftX B) [.ref a]) kn n Q :=
  fun H g Q' q => ⟨a, dx, fs, rfl, g.ex _ _ ha, sp_call (EA := fun _ _ _ _ => False) (Q := fun v k n => ∃ x : Str, v = .str x ∧ Q (.str x) k n) hm err_no h H g _ fun v kn1 n1 H1 ⟨b, e, hq⟩ g1 => ⟨b, e, q _ _ _ _ hq g1⟩⟩
theorem w_cval {ta : TE} {f : Str} (h : W c (ta σ) kn n fun x kn1 n1 => ∃ C mc v u, x = .ref C ∧ CRead K C mc ∧ CVal K C mc f v u ∧ Q v kn1 n1) : W c (tCVal K ta f σ) kn n Q :=
  fun H g Q' q => h H g _ fun x kn1 n1 H1 ⟨C, mc, v, u, e, r, cv, hq⟩ g1 => ⟨C, mc, v, u, e, r, cv, q _ _ _ _ hq g1⟩
theorem w_tupRg {ta tb : TE} (h : W c (ta σ) kn n fun x kn1 n1 => W c (tb σ) kn1 n1 fun y kn2 n2 => ∃ i j, x = .int i ∧ y = .int j ∧ RgOk i j ∧ ∀ q, kn2 q = none → Q (.ref q) (upd kn2 q (.tup (rgV i j))) n2) : W c (tTupRg (tRg2 ta tb) σ) kn n Q :=
  fun H g Q' q => h H g _ fun x kn1 n1 H1 h1 g1 => h1 H1 g1 _ fun y kn2 n2 H2 ⟨i, j, e1, e2, ok, h2⟩ g2 => ⟨i, j, e1, e2, ok, fun p hp => q _ _ _ _ (h2 p (g2.free hp)) (g2.new hp)⟩
theorem w_fmtI {te : TE} (h : W c (te σ) kn n fun x kn1 n1 => ∃ i : Int, x = .int i ∧ i.natAbs.log2 < 1920 ∧ Q (.str (toString i)) kn1 n1) : W c (tFmt te σ) kn n Q :=
  fun H g Q' q => h H g _ fun x kn1 n1 H1 ⟨i, e, hi, hq⟩ g1 => .inr ⟨i, e, hi, q _ _ _ _ hq g1⟩
theorem w_fmtS {te : TE} (h : W c (te σ) kn n fun x kn1 n1 => ∃ y : Str, x = .str y ∧ y.length ≤ sizeLine ∧ Q (.str y) kn1 n1) : W c (tFmt te σ) kn n Q :=
  fun H g Q' q => h H g _ fun x kn1 n1 H1 ⟨i, e, hi, hq⟩ g1 => .inl ⟨i, e, hi, q _ _ _ _ hq g1⟩
theorem w_js0 {acc : Str} {QS : Str → Hp → Nat → Prop} (q : QS acc kn n) : W c (tJs [] acc σ) kn n QS := fun H g _ k => k _ kn n H q g
theorem w_js {t : TE} {ts : List TE} {acc : Str} {QS : Str → Hp → Nat → Prop} (h : W c (t σ) kn n fun x kn1 n1 => ∃ y : Str, x = .str y ∧ (acc ++ y).length ≤ sizeLine ∧ W c (tJs ts (acc ++ y) σ) kn1 n1 QS) : W c (tJs (t :: ts) acc σ) kn n QS :=
  fun H g Q' q => h H g _ fun x kn1 n1 H1 ⟨y, e, hl, h2⟩ g1 => ⟨y, e, hl, h2 H1 g1 Q' q⟩
theorem w_joined {ts : List TE} (h : W c (tJs ts Str.empty σ) kn n fun out kn1 n1 => Q (.str out) kn1 n1) : W c (fun H Q' => tJs ts Str.empty σ H fun out H1 => Q' (.str out) H1) kn n Q :=
  fun H g Q' q => h H g _ fun out kn1 n1 H1 h1 g1 => q _ _ _ _ h1 g1
theorem r_repr {a : Addr} {d : PyData} (hd : Dp K kn (.ref a) d) (h1 : d.showable = true) (h2 : d.hasDict = false) (h3 : d.depth ≤ 64) (h4 : d.shown.length ≤ sizeLine) (q : Q (.str d.shown) kn n) : W c (rRepr K [.ref a]) kn n Q :=
  fun H g _ k => ⟨a, d, rfl, Dp.ext g.ex d _ hd, h1, h2, h3, h4, k _ kn n H q g⟩
theorem r_isK {a D dd : Addr} {fs : List (Str × V)} {cv : V} {u : Value} {b : Bool} (k : ClsV cv u) (ea : kn a = some (exh a (.ref D) (some dd))) (ed : kn dd = some (.xd fs)) (ex : ExcC K D) (e : PySem.W.kitOne K (.ref D) u = some b) (q : Q (.bl b) kn n) : W c (rIsK K [.ref a, cv]) kn n Q :=
  fun H g _ f => ⟨a, D, dd, fs, cv, u, b, rfl, k, g.ex _ _ ea, g.ex _ _ ed, ex, e, f _ kn n H q g⟩
theorem w_xk {te : TE} {f : Str} (h : W c (te σ) kn n fun x kn1 n1 => ∃ (a C dd : Addr) (fs : List (Str × V)) (v : V), x = .ref a ∧ kn1 a = some (exh a (.ref C) (some dd)) ∧ kn1 dd = some (.xd fs) ∧ XfC K C ∧ PySem.W.findIn K (.ref C) f = some none ∧ fs.lookup f = some v ∧ Q v kn1 n1) : W c (tXk K te f σ) kn n Q :=
  fun H g Q' q => h H g _ fun x kn1 n1 H1 ⟨a, C, dd, fs, v, e, ea, ed, xf, hn, hl, hq⟩ g1 => ⟨a, C, dd, fs, v, e, g1.ex _ _ ea, g1.ex _ _ ed, xf, hn, hl, q _ _ _ _ hq g1⟩
theorem w_dnew (h : ∀ q, kn q = none → Q (.ref q) (upd kn q (.dK [])) n) : W c (tDNewK σ) kn n Q := fun H g Q' q => fun p hp => q _ _ _ _ (h p (g.free hp)) (g.new hp)
theorem w_chain {r r' : R2} {ta tb tc : TE} (h : W c (ta σ) kn n fun x kn1 n1 => W c (tb σ) kn1 n1 fun y kn2 n2 => W c (r x y) kn2 n2 fun z kn3 n3 => ∃ k, z = .bl k ∧ (k = true → W c (tc σ) kn3 n3 fun w kn4 n4 => W c (r' y w) kn4 n4 Q) ∧ (k = false → Q (.bl false) kn3 n3)) : W c (tChain r r' ta tb tc σ) kn n Q :=
  fun H g Q' q => h H g _ fun x kn1 n1 H1 h1 g1 => h1 H1 g1 _ fun y kn2 n2 H2 h2 g2 => h2 H2 g2 _ fun z kn3 n3 H3 h3 g3 => by
    obtain ⟨k, e, a, b⟩ := h3
    refine ⟨k, e, ?_⟩
    cases k with
    | true => exact iteT (a rfl H3 g3 _ fun w kn4 n4 H4 h4 g4 => h4 H4 g4 Q' q)
    | false => exact iteF (q _ _ _ _ (b rfl) g3)
variable {D : AE}
theorem s_fld {ta tv : TE} {f : Str} (h : W c (tv σ) kn n fun y kn1 n1 => W c (ta σ) kn1 n1 fun x kn2 n2 => ∃ a C dx fs, x = .ref a ∧ kn2 a = some (.ins C dx fs) ∧ Cls K C ∧ NoAttr K C f ∧ fs.length < 1000 ∧ D.nx σ (upd kn2 a (.ins C dx (putF f y fs))) n2) : WS c (sFld K ta tv f) D σ kn n :=
  fun H g D' fit => h H g _ fun y kn1 n1 H1 h1 g1 => h1 H1 g1 _ fun x kn2 n2 H2 ⟨a, C, dx, fs, e, ha, cl, na, hl, hq⟩ g2 => ⟨a, C, dx, fs, e, g2.ex _ _ ha, cl, na, hl, fit.nx _ _ _ _ hq (g2.put ha rfl)⟩
theorem s_aug {i : Nat} {te : TE} {ti : TIp} {x : V} (hv : σ[i]? = some (some x)) (h : W c (te σ) kn n fun y kn1 n1 => W c (ti x y) kn1 n1 fun z kn2 n2 => D.nx (σ.set i (some z)) kn2 n2) : WS c (tAug i te ti) D σ kn n :=
  fun H g D' fit => ⟨x, hv, h H g _ fun y kn1 n1 H1 h1 g1 => h1 H1 g1 _ fun z kn2 n2 H2 h2 g2 => fit.nx _ _ _ _ h2 g2⟩
theorem room_u128 {k : Nat} {A : Around} (r : Room k A) : A.units + 128 < cLine := by have := r.un; omega
/-- an error class whose __init__ sets one field -/
def spX1 (K : PySem.W.Frag) (f : Str) : Sp := fun vs H Q _ => ∃ (a C : Addr) (y : V), vs = [.ref a, y] ∧ OexC K C ∧ PySem.W.findIn K (.ref C) f = some none ∧ H a = some (exo a C none) ∧
  ∀ dx, H dx = none → dx ≠ a → Q .non (upd (upd H dx (exd dx [(f, y)])) a (exo a C (some dx)))
theorem x1_end {H : Hp} {a d : Addr} {o1 o2 o3 o4 : HO} (ha : H a = none) (hd : d ≠ a) : upd (del (upd (upd (upd H a o1) d o2) a o3) a) d o4 = upd H d o4 := by
  funext x
  by_cases h1 : x = d
  · rw [h1, upd_same, upd_same]
  · rw [upd_ne h1, upd_ne h1]
    by_cases h2 : x = a
    · rw [h2, del_same, ha]
    · rw [del_ne h2, upd_ne h2, upd_ne h1, upd_ne h2]
theorem s_raise1 {C : Addr} {f : Str} {ta : TA} (oc : OexC K C) (hf : PySem.W.findIn K (.ref C) f = some none) (hE : ErrOk c EA E)
    (h : W c (ta σ) kn n fun vs kn1 n1 => ∃ y, vs = [y] ∧ ∀ d, kn1 d = none → EA (.ref C) (some d) (upd kn1 d (.xd [(f, y)])) n1) :
    WS c (fun _ σ H => tMkO C (spX1 K f) [] ta σ H fun cls d H' => E cls d H') D σ kn n :=
  fun H g D' fit => h H g _ fun vs kn1 n1 H1 ⟨y, e, h1⟩ g1 => by
    subst e
    refine ⟨Nat.le_add_left 1 999, fun a ha => ⟨a, C, y, rfl, oc, hf, upd_same, fun d hd hda => ⟨rfl, d, [(f, y)], upd_same, ?_, ?_, ?_⟩⟩⟩
    · rw [upd_ne hda, upd_same]
    · rw [upd_ne hda] at hd
      exact hd
    · rw [upd_ne hda] at hd
      rw [x1_end ha hda]
      exact hE _ _ _ _ _ (h1 d (g1.free hd)) (g1.new hd)
end
end AW

/-! x in o, x not in o: o of an own class with __contains__; truth of an own class by __bool__ or __len__ is not here. -/
namespace L2
open PySem PySem.Spec PyProof.Rows
section
variable {X : Cx} {CX : CXT} {k : Nat} {f C : Addr} {fd : FuncData} {ps : List Str} {sp : Sp}
def rInO (C : Addr) (sp : Sp) (neg : Bool) : R2 := fun x y H Q => ∃ a dx fs, y = .ref a ∧ H a = some (.ins C dx fs) ∧ sp [.ref a, x] H (fun v H' => ∃ b, v = .bl b ∧ Q (.bl (if neg then !b else b)) H') (fun _ _ _ => False)
theorem op_inO (M : SpM X.K C f "__contains__") (F : FnOk X.prog X.w X.K X.mg X.base CX k f fd ps sp) (hr : Room k X.A) (hb : Binds X.K fd ps []) (hx : Passes CX X (fun _ _ _ => False)) : OpR X (compareOp .In) (rInO C sp false) := by
  intro pins s σ H x y v u Q I rx ry h
  obtain ⟨a, dx, fs, rfl, ha, hq⟩ := h
  cases (show u = Value.ref a from ry)
  obtain ⟨_, J, _⟩ := ins_get I.hok ha
  obtain ⟨_, J, _⟩ := J.look
  obtain ⟨_, hF⟩ := I.fr
  refine PySem.W.in_K hF I.ok.mod.kin J M.hs M.hf (wpAny_mono (callA (vs := [.ref a, x]) F hr rfl hb hx I (.cons rfl (.cons rx .nil)) hq) (fun z s' hz => ?_) fun _ _ z => z)
  obtain ⟨v', H', I', rv, b, e, q⟩ := hz
  subst e
  cases (show z = Value.bool b from rv)
  exact wpAny_truthy_bool ⟨.bl b, H', I', rfl, q⟩
theorem op_notInO (M : SpM X.K C f "__contains__") (F : FnOk X.prog X.w X.K X.mg X.base CX k f fd ps sp) (hr : Room k X.A) (hb : Binds X.K fd ps []) (hx : Passes CX X (fun _ _ _ => False)) : OpR X (compareOp .NotIn) (rInO C sp true) := by
  intro pins s σ H x y v u Q I rx ry h
  obtain ⟨a, dx, fs, rfl, ha, hq⟩ := h
  cases (show u = Value.ref a from ry)
  obtain ⟨_, J, _⟩ := ins_get I.hok ha
  obtain ⟨_, J, _⟩ := J.look
  obtain ⟨_, hF⟩ := I.fr
  refine PySem.W.notIn_K hF I.ok.mod.kin J M.hs M.hf (wpAny_mono (callA (vs := [.ref a, x]) F hr rfl hb hx I (.cons rfl (.cons rx .nil)) hq) (fun z s' hz => ?_) fun _ _ z => z)
  obtain ⟨v', H', I', rv, b, e, q⟩ := hz
  subst e
  cases (show z = Value.bool b from rv)
  exact wpAny_truthy_bool ⟨.bl (!b), H', I', rfl, q⟩
end
end L2
namespace AW
open PySem PySem.Spec PyProof.Rows L2
section
variable {c : Cw} {kn : Hp} {n : Nat} {Q : V → Hp → Nat → Prop} {B : List V → Hp → AK → AXK → Prop}
theorem r_inO {C a dx : Addr} {fs : List (Str × V)} {x : V} {neg : Bool} (hm : MonoX B) (ha : kn a = some (.ins C dx fs)) (h : B [.ref a, x] kn (fun v k => ∃ b, v = .bl b ∧ Q (.bl (if neg then !b else b)) k n) (fun _ _ _ => False)) : W c (rInO C (liftX B) neg x (.ref a)) kn n Q :=
  fun H g Q' q => ⟨a, dx, fs, rfl, g.ex _ _ ha, sp_call (EA := fun _ _ _ _ => False) (Q := fun v k n => ∃ b, v = .bl b ∧ Q (.bl (if neg then !b else b)) k n) hm err_no h H g _ fun v kn1 n1 H1 ⟨b, e, hq⟩ g1 => ⟨b, e, q _ _ _ _ hq g1⟩⟩
end
end AW

namespace L2
open PySem PySem.Spec PyProof.Rows Builtin
theorem int_eq_inst (b : Int) (u : Tok) (x C dx : Addr) :
    Meets (Builtin.«int.__eq__» ⟨[.int b u, .ref x], []⟩) (fun _ R s => s.heap.get? x = some (PySem.W.instObj C dx) ∧ R (.ok (.ret .notImplemented)) s) :=
  .of_wp fun prog w A R s h => by
    obtain ⟨hp, g, d, tk, os⟩ := s
    obtain ⟨hl, h⟩ := h
    unfold PySem.W.instObj at hl
    wp_walk using wpAny_loadPart' hl, wpAny_load hl
    exact ⟨_, rfl, h⟩
theorem bool_eq_inst (b : Bool) (x C dx : Addr) :
    Meets (Builtin.«int.__eq__» ⟨[.bool b, .ref x], []⟩) (fun _ R s => s.heap.get? x = some (PySem.W.instObj C dx) ∧ R (.ok (.ret .notImplemented)) s) :=
  .of_wp fun prog w A R s h => by
    obtain ⟨hp, g, d, tk, os⟩ := s
    obtain ⟨hl, h⟩ := h
    unfold PySem.W.instObj at hl
    wp_walk using wpAny_loadPart' hl, wpAny_load hl
    exact ⟨_, rfl, h⟩
theorem str_eq_inst (b : Str) (u : Tok) (x C dx : Addr) :
    Meets (Builtin.«str.__eq__» ⟨[.str b u, .ref x], []⟩) (fun _ R s => s.heap.get? x = some (PySem.W.instObj C dx) ∧ R (.ok (.ret .notImplemented)) s) :=
  .of_wp fun prog w A R s h => by
    obtain ⟨hp, g, d, tk, os⟩ := s
    obtain ⟨hl, h⟩ := h
    unfold PySem.W.instObj at hl
    wp_walk using wpAny_loadPart' hl, wpAny_load hl
    exact ⟨_, rfl, h⟩
theorem tup_eq_inst (l x : Addr) :
    Meets (Builtin.«tuple.__eq__» ⟨[.ref l, .ref x], []⟩) (fun _ R s => (∀ (M : Model) (A : Around) (Q : Bool → Shared → Prop) (E : Value → Shared → Prop), Q false s → wpAny M A (isInstance (.ref x) (.type "tuple")) Q E s) ∧ R (.ok (.ret .notImplemented)) s) :=
  .of_wp fun prog w A R s h => by
    obtain ⟨hp, g, d, tk, os⟩ := s
    obtain ⟨hl, h⟩ := h
    wp_walk using hl _ _ _ _
    exact ⟨_, rfl, h⟩
theorem lst_eq_inst (l x : Addr) :
    Meets (Builtin.«list.__eq__» ⟨[.ref l, .ref x], []⟩) (fun _ R s => (∀ (M : Model) (A : Around) (Q : Bool → Shared → Prop) (E : Value → Shared → Prop), Q false s → wpAny M A (isInstance (.ref x) (.type "list")) Q E s) ∧ R (.ok (.ret .notImplemented)) s) :=
  .of_wp fun prog w A R s h => by
    obtain ⟨hp, g, d, tk, os⟩ := s
    obtain ⟨hl, h⟩ := h
    wp_walk using hl _ _ _ _
    exact ⟨_, rfl, h⟩
section
variable {prog : Program} {w : World} {A : Around} {E : Value → Shared → Prop} {s : Shared} {K : PySem.W.Frag} {x C f : Addr} {ox : Obj} {od : Option Obj} {b : Value} {T id : String} {Q : Value → Shared → Prop}
/-- b == x, b of a built-in type that declines, x's class has an own == -/
theorem eq_back (hu : A.units < cLine) (X : K.In s.heap) (I : PySem.W.InstAt s.heap x ox C od) (hT : s.TypeIs b T) (slot : Slot T "__eq__" id) (hs : PySem.W.findIn K (.ref C) "__eq__" = some (some (.ref f))) (hf : PySem.W.isFn K (.ref f) = true) (sub : PySem.W.subIn K (.ref C) (.type T) = some false)
    (dec : ∀ (P : Value → Shared → Prop) (E' : Value → Shared → Prop), P .notImplemented s → wpAny (model prog w) A (call (.builtin id) [b, .ref x]) P E' s)
    (h : wpAny (model prog w) A (call (.ref f) [.ref x, b]) (PySem.W.CmpBack Q) E s) : wpAny (model prog w) A (richCompare .Eq b (.ref x)) Q E s := by
  have ne : ((Value.type T) != (Value.ref C)) = true := rfl
  simp only [richCompare, cmpInfo_Eq, hT.oneThing_none]
  refine wpAny_holding (wpAny_bind (wpAny_cRoomFor hu ?_))
  refine wpAny_bind (wpAny_typeOf hT ?_)
  refine wpAny_bind (I.type.here ?_)
  rw [if_pos ne]
  refine wpAny_bind ((PySem.W.looks_subIn X sub).here ?_)
  simp only [Bool.false_eq_true, if_false, Bool.not_false, if_true]
  refine wpAny_bind (m := tryCompare b _ (.ref x)) (wpAny_tryCompare_declines hT slot (dec _ _ ⟨rfl, ?_⟩))
  refine wpAny_bind (m := tryCompare (.ref x) _ b) ?_
  unfold tryCompare
  refine wpAny_bind (PySem.W.ifBound_K X I hs hf (wpAny_mono h (fun v s' hv => ?_) fun _ _ e => e))
  cases v <;> first | exact hv.elim | exact wpAny_pure (wpAny_pure hv)
end
end L2

/-! x in a list, where == of an item may run a def of the text. -/
namespace L2
open PySem PySem.Spec PyProof.Rows PySem.SeqAt
abbrev lstOf (items : Array Value) (n : Nat) : Obj := { cls := .type "list", dict := none, data := .seq items n, slots := #[] }
/-- the turns that are left, the spot -/
def EqChain (prog : Program) (w : World) (A : Around) (l : Addr) (x : Value) : Nat → Nat → (Result → Shared → Prop) → Shared → Prop
  | 0, i, R, s => ∃ items n, s.heap.get? l = some (lstOf items n) ∧ items[i]? = none ∧ R (.ok (.ret (.bool false))) s
  | m + 1, i, R, s => ∃ items n y, s.heap.get? l = some (lstOf items n) ∧ items[i]? = some y ∧ wpAny (model prog w) A (eqBool y x) (fun b s' => (b = true → R (.ok (.ret (.bool true))) s') ∧ (b = false → EqChain prog w A l x m (i + 1) R s')) (fun e s' => R (.error e) s') s
theorem contains_chain {prog : Program} {w : World} {l : Addr} {x : Value} (m : Nat) :
    ∀ i : Nat, MeetsIn prog w (Builtin.«list.__contains__.loop» ⟨[.ref l, x, rawInt i], []⟩) (fun A R s => EqChain prog w A.in1 l x m i R s) := by
  induction m with
  | zero =>
    intro i A R s h
    obtain ⟨hp, g, d, tk, os⟩ := s
    obtain ⟨items, n, hl, hi, h⟩ := h
    wp_walk using wpAny_loadPart' hl
    have none_at : items[((i : Nat) : Int).toNat]? = none := by simpa using hi
    rw [none_at]
    wp_walk
    exact h
  | succ m ih =>
    intro i A R s h
    obtain ⟨hp, g, d, tk, os⟩ := s
    obtain ⟨items, n, y, hl, hi, h⟩ := h
    wp_walk using wpAny_loadPart' hl
    have some_at : items[((i : Nat) : Int).toNat]? = some y := by simpa using hi
    rw [some_at]
    refine wpAny_bind (wpAny_mono h (fun b s' hb => ?_) fun _ _ z => z)
    obtain ⟨ht, hf⟩ := hb
    cases b with
    | true =>
      wp_walk
      exact ht rfl
    | false =>
      have cast1 : ((i : Int) + 1) = ((i + 1 : Nat) : Int) := by push_cast; rfl
      wp_walk
      rw [cast1]
      refine ⟨plainId_quiet MeetsSeq.plain_contains_loop _, codeAny_builtin MeetsSeq.entry_contains_loop ?_⟩
      rw [Around.under_plainId MeetsSeq.plain_contains_loop _]
      exact ih (i + 1) A R s' (hf rfl)
theorem contains_list {prog : Program} {w : World} {l : Addr} {x : Value} (m : Nat) :
    MeetsIn prog w (Builtin.«list.__contains__» ⟨[.ref l, x], []⟩) (fun A R s => s.TypeIs (.ref l) "list" ∧ EqChain prog w A.in1 l x m 0 R s) := by
  intro A R s h
  obtain ⟨hp, g, d, tk, os⟩ := s
  obtain ⟨hl, h⟩ := h
  wp_walk
  refine ⟨plainId_quiet MeetsSeq.plain_contains_loop _, codeAny_builtin MeetsSeq.entry_contains_loop ?_⟩
  rw [Around.under_plainId MeetsSeq.plain_contains_loop _]
  exact contains_chain m 0 A R _ h
theorem in_chain {prog : Program} {w : World} {A : Around} {E : Value → Shared → Prop} {s : Shared} {l : Addr} {x : Value} {Q : Value → Shared → Prop} (m : Nat) (hl : s.TypeIs (.ref l) "list")
    (h : EqChain prog w A.in1 l x m 0 (wants (fun v s' => ∃ b, v = .bool b ∧ Q (.bool b) s') E) s) : wpAny (model prog w) A (compareOp .In x (.ref l)) Q E s := by
  show wpAny _ A (do return .bool (← contains (.ref l) x)) Q E s
  refine wpAny_bind (wpAny_contains_slot (T := "list") hl F.slot_list_contains (wpAny_mono (call_meetsIn F.slot_list_contains hl F.entry_list_contains (F.args_list_contains_2 _ _) (contains_list m) ⟨hl, h⟩) (fun v s' hv => ?_) fun _ _ e => e))
  obtain ⟨b, rfl, hq⟩ := hv
  exact wpAny_truthy_bool (wpAny_pure hq)
end L2

/-! o in a list of built-in values, o of an own class with an own ==. -/
namespace L2
open PySem PySem.Spec PyProof.Rows PySem.SeqAt
/-- a built-in value whose == leaves the answer to the class at C -/
inductive BackV (K : PySem.W.Frag) (H : Hp) (C : Addr) : V → Prop where
  | non (h : PySem.W.subIn K (.ref C) (.type "NoneType") = some false) : BackV K H C .non
  | bl (b : Bool) (h : PySem.W.subIn K (.ref C) (.type "bool") = some false) : BackV K H C (.bl b)
  | int (i : Int) (h : PySem.W.subIn K (.ref C) (.type "int") = some false) : BackV K H C (.int i)
  | str (x : Str) (h : PySem.W.subIn K (.ref C) (.type "str") = some false) : BackV K H C (.str x)
  | lst {l : Addr} {xs : List V} (e : H l = some (.lst xs)) (h : PySem.W.subIn K (.ref C) (.type "list") = some false) : BackV K H C (.ref l)
  | tup {l : Addr} {xs : List V} (e : H l = some (.tup xs)) (h : PySem.W.subIn K (.ref C) (.type "tuple") = some false) : BackV K H C (.ref l)
def InCh (K : PySem.W.Frag) (C a l : Addr) (vs : List V) (sp : Sp) : List V → Hp → VK → Prop
  | [], H, Q => Q (.bl false) H
  | v :: r, H, Q => BackV K H C v ∧ sp [.ref a, v] H (fun u H1 => ∃ b, u = .bl b ∧ H1 l = some (.lst vs) ∧ (∃ dx fs, H1 a = some (.ins C dx fs)) ∧ (b = true → Q (.bl true) H1) ∧ (b = false → InCh K C a l vs sp r H1 Q)) (fun _ _ _ => False)
def rInLO (K : PySem.W.Frag) (C : Addr) (sp : Sp) : R2 := fun x y H Q => ∃ a dx fs l vs, x = .ref a ∧ y = .ref l ∧ H a = some (.ins C dx fs) ∧ H l = some (.lst vs) ∧ InCh K C a l vs sp vs H Q
section
variable {X : Cx} {CX : CXT} {k : Nat} {f C a l : Addr} {fd : FuncData} {ps : List Str} {sp : Sp} {pins : List (Addr × Obj)} {σ : St} {H : Hp} {s : Shared} {v : V} {u : Value} {dx : Addr} {fs : List (Str × V)}
theorem eqBool_back {A : Around} {Q : Bool → Shared → Prop} {E : Value → Shared → Prop} (hu : A.units < cLine) (M : EqM X.K C f) (I : Inv X pins σ H s) (ha : H a = some (.ins C dx fs)) (b : BackV X.K H C v) (r : RelV v u)
    (h : wpAny (model X.prog X.w) A (call (.ref f) [.ref a, u]) (PySem.W.CmpBack fun z s' => wpAny (model X.prog X.w) A (truthOfDropped z) Q E s') E s) : wpAny (model X.prog X.w) A (eqBool u (.ref a)) Q E s := by
  obtain ⟨mA, J, _⟩ := ins_get I.hok ha
  obtain ⟨od, J, _⟩ := J.look
  have KI := I.kIn
  have isI : ∀ {T : String}, PySem.W.subIn X.K (.ref C) (.type T) = some false → ∀ (M : Model) (A : Around) (Q : Bool → Shared → Prop) (E : Value → Shared → Prop), Q false s → wpAny M A (isInstance (.ref a) (.type T)) Q E s := fun {T} h M' A' Q' E' q => (J.type.andThen (f := fun t => isSubtype t (.type T)) (PySem.W.looks_subIn KI h)).here q
  unfold eqBool
  refine wpAny_holding ?_
  cases b with
  | non hs =>
    cases (show u = Value.none from r)
    refine wpAny_ite_split (fun z => absurd (eq_of_beq z) nofun) (fun _ => ?_)
    refine wpAny_bind (eq_back hu KI J (T := "NoneType") rfl F.slot_NoneType_eq M.hs M.hf hs (fun P E' p => call_gives F.slot_NoneType_eq rfl F.entry_NoneType_eq (F.args_NoneType_eq_2 _ _) (NoneType___eq___none_ref_0 a) p) h)
  | bl y hs =>
    cases (show u = Value.bool y from r)
    refine wpAny_ite_split (fun z => absurd (eq_of_beq z) nofun) (fun _ => ?_)
    refine wpAny_bind (eq_back hu KI J (T := "bool") rfl F.slot_bool_eq M.hs M.hf hs (fun P E' p => call_meets F.slot_bool_eq rfl F.entry_int_eq (F.args_int_eq_2 _ _) (bool_eq_inst y a C dx) ⟨J.1, p⟩) h)
  | int y hs =>
    obtain ⟨t, rfl⟩ := (show ∃ t, u = Value.int y t from r)
    refine wpAny_ite_split (fun z => absurd (eq_of_beq z) nofun) (fun _ => ?_)
    refine wpAny_bind (eq_back hu KI J (T := "int") (typeIs_int _ _ _) F.slot_int_eq M.hs M.hf hs (fun P E' p => call_meets F.slot_int_eq (typeIs_int _ _ _) F.entry_int_eq (F.args_int_eq_2 _ _) (int_eq_inst y t a C dx) ⟨J.1, p⟩) h)
  | str y hs =>
    obtain ⟨t, rfl⟩ := (show ∃ t, u = Value.str y t from r)
    refine wpAny_ite_split (fun z => absurd (eq_of_beq z) nofun) (fun _ => ?_)
    refine wpAny_bind (eq_back hu KI J (T := "str") (typeIs_str _ _ _) F.slot_str_eq M.hs M.hf hs (fun P E' p => call_meets F.slot_str_eq (typeIs_str _ _ _) F.entry_str_eq (F.args_str_eq_2 _ _) (str_eq_inst y t a C dx) ⟨J.1, p⟩) h)
  | @lst l xs e hs =>
    cases (show u = Value.ref l from r)
    have ne : l ≠ a := fun z => by rw [z, ha] at e; cases e
    obtain ⟨_, its, n, _, _, e1⟩ := I.lstM e
    refine wpAny_ite_split (fun z => absurd (Value.ref.inj (eq_of_beq z)) ne) (fun _ => ?_)
    refine wpAny_bind (eq_back hu KI J (T := "list") ⟨_, e1, rfl⟩ F.slot_list_eq M.hs M.hf hs (fun P E' p => call_meets F.slot_list_eq ⟨_, e1, rfl⟩ F.entry_list_eq (F.args_list_eq_2 _ _) (lst_eq_inst l a) ⟨isI hs, p⟩) h)
  | @tup l xs e hs =>
    cases (show u = Value.ref l from r)
    have ne : l ≠ a := fun z => by rw [z, ha] at e; cases e
    obtain ⟨its, _, pl, _⟩ := I.tuple (.inl (.inl e))
    obtain ⟨o, ho, hc, _⟩ := pl
    refine wpAny_ite_split (fun z => absurd (Value.ref.inj (eq_of_beq z)) ne) (fun _ => ?_)
    refine wpAny_bind (eq_back hu KI J (T := "tuple") ⟨o, ho, hc⟩ F.slot_tuple_eq M.hs M.hf hs (fun P E' p => call_meets F.slot_tuple_eq ⟨o, ho, hc⟩ F.entry_tuple_eq (F.args_tuple_eq_2 _ _) (tup_eq_inst l a) ⟨isI hs, p⟩) h)
theorem in_walk {Q : VK} (hu : X.A.in1.units < cLine) (M : EqM X.K C f) (F : FnOk X.prog X.w X.K X.mg X.base CX k f fd ps sp) (hr : Room k X.A.in1) (hb : Binds X.K fd ps []) (hx : Passes CX X (fun _ _ _ => False)) {vs : List V} :
    ∀ (r done : List V) (H : Hp) (s : Shared), vs = done ++ r → Inv X pins σ H s → (∃ dx fs, H a = some (.ins C dx fs)) → H l = some (.lst vs) → InCh X.K C a l vs sp r H Q →
      EqChain X.prog X.w X.A.in1 l (.ref a) r.length done.length (wants (fun v s' => ∃ b, v = .bool b ∧ EP X pins σ Q (.bool b) s') X.xe) s := by
  intro r
  induction r with
  | nil =>
    intro done H s e I ha hl h
    obtain ⟨_, its, n, rv, hlen, e1⟩ := I.lstM hl
    refine ⟨its.toArray, n, e1, ?_, ⟨false, rfl, .bl false, H, I, rfl, h⟩⟩
    rw [List.getElem?_toArray, List.getElem?_eq_none]
    rw [← hlen, e, List.append_nil]
    exact Nat.le_refl _
  | cons v r ih =>
    intro done H s e I ha hl h
    obtain ⟨dx, fs, ha⟩ := ha
    obtain ⟨bv, hsp⟩ := h
    obtain ⟨_, its, n, rv, hlen, e1⟩ := I.lstM hl
    have at_v : vs[done.length]? = some v := by rw [e]; simp
    obtain ⟨u, hu1, ru⟩ := rv.get at_v
    refine ⟨its.toArray, n, u, e1, by rw [List.getElem?_toArray]; exact hu1, ?_⟩
    refine eqBool_back hu M I ha bv ru (wpAny_mono (callA (A := X.A.in1) (vs := [.ref a, v]) F hr rfl hb hx I (.cons rfl (.cons ru .nil)) hsp) (fun z s' hz => ?_) fun _ _ z => z)
    obtain ⟨v', H', I', rv', b, eb, hl', ha', ht, hf⟩ := hz
    subst eb
    cases (show z = Value.bool b from rv')
    show wpAny _ _ (truthOfDropped (.bool b)) _ _ _
    refine (show wpAny _ _ (truthy (.bool b)) _ _ _ from wpAny_truthy_bool ⟨fun hbt => ?_, fun hbf => ?_⟩)
    · exact ⟨true, rfl, .bl true, H', I', rfl, ht hbt⟩
    · have q := ih (done ++ [v]) H' s' (by rw [e]; simp) I' ha' hl' (hf hbf)
      rw [List.length_append] at q
      exact q
theorem op_inLO (M : EqM X.K C f) (F : FnOk X.prog X.w X.K X.mg X.base CX k f fd ps sp) (hr : Room (k + 1) X.A) (hb : Binds X.K fd ps []) (hx : Passes CX X (fun _ _ _ => False)) : OpR X (compareOp .In) (rInLO X.K C sp) := by
  intro pins s σ H x y v u Q I rx ry h
  obtain ⟨a, dx, fs, l, vs, rfl, rfl, ha, hl, h⟩ := h
  cases (show v = Value.ref a from rx)
  cases (show u = Value.ref l from ry)
  obtain ⟨_, its, n, _, _, e1⟩ := I.lstM hl
  exact in_chain vs.length ⟨_, e1, rfl⟩ (in_walk hr.in1.units0 M F hr.in1 hb hx vs [] H s rfl I ⟨dx, fs, ha⟩ hl h)
end
end L2
namespace AW
open PySem PySem.Spec PyProof.Rows L2
theorem backV_ext {K : PySem.W.Frag} {H H' : Hp} {C : Addr} {v : V} (e : Ext H H') (b : BackV K H C v) : BackV K H' C v := by
  cases b with
  | non h => exact .non h
  | bl b h => exact .bl b h
  | int i h => exact .int i h
  | str x h => exact .str x h
  | lst q h => exact .lst (e _ _ q) h
  | tup q h => exact .tup (e _ _ q) h
/-- none of the items is equal -/
theorem r_inL_no {K : PySem.W.Frag} {c : Cw} {kn : Hp} {n : Nat} {Q : V → Hp → Nat → Prop} {B : List V → Hp → AK → AXK → Prop} {C a l dx : Addr} {fs : List (Str × V)} {vs : List V} (hm : MonoX B) (ha : kn a = some (.ins C dx fs)) (hl : kn l = some (.lst vs))
    (hv : ∀ v ∈ vs, BackV K kn C v ∧ B [.ref a, v] kn (fun u k => u = .bl false ∧ k = kn) (fun _ _ _ => False)) (q : Q (.bl false) kn n) : W c (rInLO K C (liftX B) (.ref a) (.ref l)) kn n Q := by
  intro H g Q' k
  have walk : ∀ (r : List V), (∀ v ∈ r, v ∈ vs) → ∀ H, Good c kn n H → InCh K C a l vs (liftX B) r H Q' := by
    intro r
    induction r with
    | nil => exact fun _ H g => k _ _ _ _ q g
    | cons v r ih =>
      intro hr H g
      obtain ⟨b, h⟩ := hv v (hr v List.mem_cons_self)
      refine ⟨backV_ext g.ex b, kn, g.ex, g.nt, hm _ _ _ _ _ _ (fun u k' hu n' H' g' => ?_) (fun _ _ _ z => z.elim) h⟩
      obtain ⟨rfl, rfl⟩ := hu
      have g2 : Good c k' n H' := g.back g'
      exact ⟨false, rfl, g2.ex _ _ hl, ⟨dx, fs, g2.ex _ _ ha⟩, (fun z => nomatch z), fun _ => ih (fun w hw => hr w (List.mem_cons_of_mem _ hw)) H' g2⟩
  exact ⟨a, dx, fs, l, vs, rfl, rfl, g.ex _ _ ha, g.ex _ _ hl, walk vs (fun _ z => z) H g⟩
end AW

/-! An own operator whose right operand is of another own class; built-in == own; repr of any data; properties. -/
namespace OX
open PySem PySem.W PySem.Calls PyProof.Rows Builtin
section
variable {prog : Program} {w : World} {A : Around} {E : Value → Shared → Prop} {s : Shared} {K : Frag} {x C D f : Addr} {ox : Obj} {od : Option Obj} {b : Value}
theorem noNumber {M : Model} {h : Heap} {nm : String} {cd : ClassData} (X : K.In h) (hc : clsIn K D = some cd) (hm : cd.mro = [.ref D, .type "object"]) (h1 : findIn K (.ref D) (PySem.dunder nm) = some none) (h2 : findIn K (.ref D) (dunderR nm) = some none)
    (o1 : typeLookup (.type "object") (PySem.dunder nm) = pure none) (o2 : typeLookup (.type "object") (dunderR nm) = pure none) : Looks M h (fillsNumberSlot (.ref D) nm) false := by
  intro A Q E s k q
  unfold fillsNumberSlot
  dsimp only
  refine wpAny_bind ((looks_clsIn X hc).andThen (f := fun cd => pure cd.mro) .now A _ E s k ?_)
  rw [hm, List.anyM_cons]
  refine wpAny_bind ?_
  dsimp only
  rw [List.anyM_cons]
  refine wpAny_bind (wpAny_bind (looks_findIn X h1 A _ E s k ?_))
  dsimp only
  refine wpAny_pure ?_
  simp only [Bool.false_eq_true, if_false]
  rw [List.anyM_cons]
  refine wpAny_bind (wpAny_bind (looks_findIn X h2 A _ E s k ?_))
  dsimp only
  refine wpAny_pure ?_
  simp only [Bool.false_eq_true, if_false, List.anyM_nil]
  refine wpAny_pure ?_
  simp only [Bool.false_eq_true, if_false]
  rw [List.anyM_cons, o1, o2]
  refine wpAny_bind (wpAny_bind (wpAny_pure (wpAny_bind (wpAny_pure ?_))))
  refine wpAny_pure ?_
  simp only [Option.isSome_none, Bool.false_and, Bool.or_self, Bool.false_eq_true, if_false, List.anyM_nil]
  exact wpAny_pure q
theorem binop1_D {nm : String} {Q : Value → Shared → Prop} (X : K.In s.heap) (I : InstAt s.heap x ox C od) (hb : Looks (model prog w) s.heap (typeOf b) (.ref D)) (hc : selfFirst K C = true)
    (hs : findIn K (.ref C) (PySem.dunder nm) = some (some (.ref f))) (hf : isFn K (.ref f) = true) (fill : Looks (model prog w) s.heap (fillsNumberSlot (.ref D) nm) false)
    (h : wpAny (model prog w) A (call (.ref f) [.ref x, b]) (PySem.W.CmpBack Q) E s) : wpAny (model prog w) A (binaryOp1 nm (.ref x) b) (fun r s' => ∃ v, r = some v ∧ Q v s') E s := by
  obtain ⟨cd, hcd, hm⟩ := any_some hc
  obtain ⟨rest, hm⟩ : ∃ rest, cd.mro = .ref C :: rest := by
    cases q : cd.mro with
    | nil => rw [q] at hm; cases hm
    | cons a r => rw [q] at hm; exact ⟨r, by rw [List.head?_cons] at hm; cases (beq_iff_eq.mp hm); rfl⟩
  have last : ∀ {α : Type} (k : Option Value → Sem α) (P : α → Shared → Prop), (∀ v s', PySem.W.CmpBack Q v s' → wpAny (model prog w) A (k (some v)) P E s') → wpAny (model prog w) A (tryMethod (.ref x) (PySem.dunder nm) b >>= k) P E s := fun k P hk => by
    refine wpAny_bind ?_
    unfold tryMethod
    refine wpAny_bind (special_fn X I hs (beq_iff_eq.mp hf) (wpAny_mono h (fun v s' hv => ?_) fun _ _ e => e))
    cases v <;> first | exact hv.elim | exact wpAny_pure (hk _ _ hv)
  unfold binaryOp1
  refine wpAny_bind (I.type.here (wpAny_bind (hb.here (wpAny_bind ((fills_K X hcd hm hs).here ?_)))))
  cases q : (Value.ref C == Value.ref D) with
  | true =>
    simp only [if_true]
    refine wpAny_bind (wpAny_pure ?_)
    simp only [Bool.and_false, Bool.false_eq_true, if_false, Bool.false_and]
    refine wpAny_bind (wpAny_pure ?_)
    simp only [Bool.false_eq_true, if_false]
    refine last _ _ fun v s' hv => ?_
    cases v <;> first | exact hv.elim | exact wpAny_pure ⟨_, rfl, hv⟩
  | false =>
    simp only [Bool.false_eq_true, if_false]
    refine wpAny_bind (fill.here ?_)
    simp only [Bool.and_false, Bool.false_eq_true, if_false, Bool.false_and]
    refine wpAny_bind (wpAny_pure ?_)
    simp only [Bool.false_eq_true, if_false, if_true]
    refine last _ _ fun v s' hv => ?_
    cases v <;> first | exact hv.elim | exact wpAny_pure ⟨_, rfl, hv⟩
end
end OX
namespace L2
open PySem PySem.Spec PyProof.Rows PySem.SeqAt
/-- the class at D has nothing to say in an operator -/
structure NoNum (K : PySem.W.Frag) (op : Operator) (D : Addr) : Prop where
  cd : ∃ cd, PySem.W.clsIn K D = some cd ∧ cd.mro = [.ref D, .type "object"]
  h1 : PySem.W.findIn K (.ref D) (PySem.dunder op.info.2) = some none
  h2 : PySem.W.findIn K (.ref D) (dunderR op.info.2) = some none
  o1 : typeLookup (.type "object") (PySem.dunder op.info.2) = pure none
  o2 : typeLookup (.type "object") (dunderR op.info.2) = pure none
def rOwnD (K : PySem.W.Frag) (op : Operator) (C D : Addr) (sp : Sp) (E : XK) : R2 := fun x y H Q => ∃ a dx fs b dy gs, x = .ref a ∧ y = .ref b ∧ H a = some (.ins C dx fs) ∧ H b = some (.ins D dy gs) ∧ sp [.ref a, .ref b] H Q E
section
variable {X : Cx} {CX : CXT} {k : Nat} {f C D : Addr} {fd : FuncData} {ps : List Str} {sp : Sp} {E : XK}
theorem op_ownD {op : Operator} (M : OpM X.K op C f) (N : NoNum X.K op D) (O : OwnC X.K D) (F : FnOk X.prog X.w X.K X.mg X.base CX k f fd ps sp) (hr : Room k X.A) (hb : Binds X.K fd ps []) (hx : Passes CX X E) : OpR X (binaryOp op) (rOwnD X.K op C D sp E) := by
  intro pins s σ H x y v u Q I rx ry h
  obtain ⟨a, dx, fs, b, dy, gs, rfl, rfl, ha, hb', hq⟩ := h
  cases rx
  have ry' := ry
  cases ry'
  obtain ⟨mA, J, _⟩ := ins_get I.hok ha
  obtain ⟨od, J, _⟩ := J.look
  have hbt := typeOf_of I ry (O.ty hb')
  obtain ⟨cd, c1, c2⟩ := N.cd
  have hc : wpAny (model X.prog X.w) X.A (call (.ref f) [.ref a, .ref b]) (PySem.W.CmpBack (EP X pins σ Q)) X.xe s :=
    wpAny_mono (callA (vs := [.ref a, .ref b]) F hr rfl hb hx I (.cons rfl (.cons ry .nil)) hq) (fun z s' hz => by
      obtain ⟨v', H', I', rv, q⟩ := id hz
      exact relV_ni rv hz) fun _ _ z => z
  exact OX.binop_of (OX.binop1_D I.kIn J hbt M.self M.hs M.hf (OX.noNumber I.kIn c1 c2 N.h1 N.h2 N.o1 N.o2) hc)
/-- x == o or o == x, o of an own class with an own ==, x of a built-in type -/
def rEqU (K : PySem.W.Frag) (C : Addr) (sp : Sp) : R2 := fun x y H Q => rEqO K C sp false x y H Q ∨ ∃ a dx fs, y = .ref a ∧ H a = some (.ins C dx fs) ∧ BackV K H C x ∧ sp [.ref a, x] H (fun v H' => ∃ b, v = .bl b ∧ Q (.bl b) H') (fun _ _ _ => False)
theorem op_eqU (M : EqM X.K C f) (F : FnOk X.prog X.w X.K X.mg X.base CX k f fd ps sp) (hr : Room (k + 1) X.A) (hb : Binds X.K fd ps []) (hx : Passes CX X (fun _ _ _ => False)) : OpR X (compareOp .Eq) (rEqU X.K C sp) := by
  intro pins s σ H x y v u Q I rx ry h
  rcases h with h | ⟨a, dx, fs, rfl, ha, bv, hq⟩
  · exact op_eqO M F hr hb hx pins s σ H x y v u Q I rx ry h
  cases (show u = Value.ref a from ry)
  obtain ⟨mA, J, _⟩ := ins_get I.hok ha
  obtain ⟨od, J, _⟩ := J.look
  have KI := I.kIn
  have hu : X.A.units < cLine := hr.units0
  have isI : ∀ {T : String}, PySem.W.subIn X.K (.ref C) (.type T) = some false → ∀ (M : Model) (A : Around) (Q : Bool → Shared → Prop) (E : Value → Shared → Prop), Q false s → wpAny M A (isInstance (.ref a) (.type T)) Q E s := fun {T} h M' A' Q' E' q => (J.type.andThen (f := fun t => isSubtype t (.type T)) (PySem.W.looks_subIn KI h)).here q
  have h : wpAny (model X.prog X.w) X.A (call (.ref f) [.ref a, v]) (PySem.W.CmpBack (EP X pins σ Q)) X.xe s :=
    wpAny_mono (callA (vs := [.ref a, x]) F (hr.mono (Nat.le_succ _)) rfl hb hx I (.cons rfl (.cons rx .nil)) hq) (fun z s' hz => by
      obtain ⟨v', H', I', rv, b, e, q⟩ := hz
      subst e
      cases (show z = Value.bool b from rv)
      exact ⟨.bl b, H', I', rfl, q⟩) fun _ _ z => z
  show wpAny (model X.prog X.w) X.A (richCompare .Eq v (.ref a)) (EP X pins σ Q) X.xe s
  cases bv with
  | non hs =>
    cases (show v = Value.none from rx)
    exact eq_back hu KI J (T := "NoneType") rfl PySem.F.slot_NoneType_eq M.hs M.hf hs (fun P E' p => call_gives PySem.F.slot_NoneType_eq rfl PySem.F.entry_NoneType_eq (PySem.F.args_NoneType_eq_2 _ _) (NoneType___eq___none_ref_0 a) p) h
  | bl y hs =>
    cases (show v = Value.bool y from rx)
    exact eq_back hu KI J (T := "bool") rfl PySem.F.slot_bool_eq M.hs M.hf hs (fun P E' p => call_meets PySem.F.slot_bool_eq rfl PySem.F.entry_int_eq (PySem.F.args_int_eq_2 _ _) (bool_eq_inst y a C dx) ⟨J.1, p⟩) h
  | int y hs =>
    obtain ⟨t, rfl⟩ := (show ∃ t, v = Value.int y t from rx)
    exact eq_back hu KI J (T := "int") (typeIs_int _ _ _) PySem.F.slot_int_eq M.hs M.hf hs (fun P E' p => call_meets PySem.F.slot_int_eq (typeIs_int _ _ _) PySem.F.entry_int_eq (PySem.F.args_int_eq_2 _ _) (int_eq_inst y t a C dx) ⟨J.1, p⟩) h
  | str y hs =>
    obtain ⟨t, rfl⟩ := (show ∃ t, v = Value.str y t from rx)
    exact eq_back hu KI J (T := "str") (typeIs_str _ _ _) PySem.F.slot_str_eq M.hs M.hf hs (fun P E' p => call_meets PySem.F.slot_str_eq (typeIs_str _ _ _) PySem.F.entry_str_eq (PySem.F.args_str_eq_2 _ _) (str_eq_inst y t a C dx) ⟨J.1, p⟩) h
  | @lst l xs e hs =>
    cases (show v = Value.ref l from rx)
    obtain ⟨_, its, n, _, _, e1⟩ := I.lstM e
    exact eq_back hu KI J (T := "list") ⟨_, e1, rfl⟩ PySem.F.slot_list_eq M.hs M.hf hs (fun P E' p => call_meets PySem.F.slot_list_eq ⟨_, e1, rfl⟩ PySem.F.entry_list_eq (PySem.F.args_list_eq_2 _ _) (lst_eq_inst l a) ⟨isI hs, p⟩) h
  | @tup l xs e hs =>
    cases (show v = Value.ref l from rx)
    obtain ⟨its, _, pl, _⟩ := I.tuple (.inl (.inl e))
    obtain ⟨o, ho, hc, _⟩ := pl
    exact eq_back hu KI J (T := "tuple") ⟨o, ho, hc⟩ PySem.F.slot_tuple_eq M.hs M.hf hs (fun P E' p => call_meets PySem.F.slot_tuple_eq ⟨o, ho, hc⟩ PySem.F.entry_tuple_eq (PySem.F.args_tuple_eq_2 _ _) (tup_eq_inst l a) ⟨isI hs, p⟩) h
/-- repr of a bool -/
def rReprB : List V → Hp → VK → Prop := fun xs H Q => ∃ b : Bool, xs = [.bl b] ∧ Q (.str (if b then "True" else "False")) H
theorem c_reprB : CallR X (.builtin "repr") rReprB := by
  intro pins s σ H xs us Q I r h
  obtain ⟨b, rfl, q⟩ := h
  obtain ⟨u, rfl, rx⟩ := vals1 r
  cases (show u = Value.bool b from rx)
  exact PySem.P.repr_of_bool ⟨.str (if b then "True" else "False"), H, I.tok _, ⟨_, rfl⟩, q⟩
def rNotN : R2 := fun x y H Q => y = V.non ∧ Q (V.bl (!decide (x = V.non))) H
theorem c_notN : OpR X (compareOp .IsNot) rNotN := op_notN
def rMax2 : List V → Hp → VK → Prop := fun xs H Q => ∃ i j : Int, xs = [.int i, .int j] ∧ Q (.int (if j > i then j else i)) H
theorem c_max2 (hc : X.calm = true) : CallR X (.builtin "max") rMax2 := call_max2 hc
def rMin2 : List V → Hp → VK → Prop := fun xs H Q => ∃ i j : Int, xs = [.int i, .int j] ∧ Q (.int (if j < i then j else i)) H
theorem c_min2 (hc : X.calm = true) : CallR X (.builtin "min") rMin2 := call_min2 hc
end
end L2
namespace AW
open PySem PySem.Spec PyProof.Rows L2
section
variable {c : Cw} {kn : Hp} {n : Nat} {σ : L2.St} {Q : V → Hp → Nat → Prop} {K : PySem.W.Frag} {E : XK} {EA : EAK} {B : List V → Hp → AK → AXK → Prop} {C D : Addr}
theorem r_ownD {op : Operator} {a b dx dy : Addr} {fs gs : List (Str × V)} (hm : MonoX B) (hE : ErrOk c EA E) (ha : kn a = some (.ins C dx fs)) (hb : kn b = some (.ins D dy gs))
    (h : B [.ref a, .ref b] kn (fun v k => Q v k n) (fun cls d k => EA cls d k n)) : W c (rOwnD K op C D (liftX B) E (.ref a) (.ref b)) kn n Q :=
  fun H g Q' q => ⟨a, dx, fs, b, dy, gs, rfl, rfl, g.ex _ _ ha, g.ex _ _ hb, sp_call hm hE h H g Q' q⟩
theorem r_eqUo {x y : V} (h : W c (rEqO K C (liftX B) false x y) kn n Q) : W c (rEqU K C (liftX B) x y) kn n Q := fun H g Q' q => .inl (h H g Q' q)
theorem r_eqUb {a dx : Addr} {fs : List (Str × V)} {x : V} (hm : MonoX B) (ha : kn a = some (.ins C dx fs)) (bv : BackV K kn C x)
    (h : B [.ref a, x] kn (fun v k => ∃ b, v = .bl b ∧ Q (.bl b) k n) (fun _ _ _ => False)) : W c (rEqU K C (liftX B) x (.ref a)) kn n Q :=
  fun H g Q' q => .inr ⟨a, dx, fs, rfl, g.ex _ _ ha, backV_ext g.ex bv, sp_call (EA := fun _ _ _ _ => False) (Q := fun v k n => ∃ b, v = .bl b ∧ Q (.bl b) k n) hm err_no h H g _ fun v kn1 n1 H1 ⟨b, e, hq⟩ g1 => ⟨b, e, q _ _ _ _ hq g1⟩⟩
theorem r_reprB {b : Bool} (q : Q (.str (if b then "True" else "False")) kn n) : W c (rReprB [.bl b]) kn n Q := fun H g _ k => ⟨b, rfl, k _ kn n H q g⟩
theorem r_notN {x : V} (q : Q (.bl (!decide (x = V.non))) kn n) : W c (rNotN x .non) kn n Q := fun H g _ k => ⟨rfl, k _ kn n H q g⟩
theorem r_max2 {i j : Int} (q : Q (.int (if j > i then j else i)) kn n) : W c (rMax2 [.int i, .int j]) kn n Q := fun H g _ k => ⟨i, j, rfl, k _ kn n H q g⟩
theorem r_min2 {i j : Int} (q : Q (.int (if j < i then j else i)) kn n) : W c (rMin2 [.int i, .int j]) kn n Q := fun H g _ k => ⟨i, j, rfl, k _ kn n H q g⟩
theorem w_prop {ta : TE} (hm : MonoX B) (h : W c (ta σ) kn n fun x kn1 n1 => ∃ a dx fs, x = .ref a ∧ kn1 a = some (.ins C dx fs) ∧ B [.ref a] kn1 (fun v k => Q v k n1) (fun _ _ _ => False)) : W c (tProp C (liftX B) [] E ta σ) kn n Q :=
  fun H g Q' q => h H g _ fun x kn1 n1 H1 ⟨a, dx, fs, e, ha, hb⟩ g1 => ⟨a, dx, fs, e, g1.ex _ _ ha, sp_call (EA := fun _ _ _ _ => False) hm err_no hb H1 g1 Q' q⟩
end
end AW

/-! iter(t) of a tuple; list(o), o of an own class whose __iter__ gives that, with a __len__ of its own. -/
namespace L2
open PySem PySem.Spec PyProof.Rows
def TitO (t it : Addr) : HO := .ext fun h => h.IsTupleIter it t 0
theorem titO_ok {P : Program} {w : World} {H : Hp} {h : Heap} {t it : Addr} (e : h.IsTupleIter it t 0) : ObjOk P w H h it (TitO t it) := ⟨e, (let ⟨o, ho, _⟩ := e; ⟨o, ho⟩), fun h1 h2 q k => let ⟨o, ho, r⟩ := q; ⟨o, k _ ho, r⟩⟩
def rIterT (K : PySem.W.Frag) : List V → Hp → VK → Prop := fun xs H Q => ∃ (t : Addr) (zs : List V), xs = [.ref t] ∧ SqT K H t zs ∧ ∀ it, H it = none → Q (.ref it) (upd H it (TitO t it))
section
variable {X : Cx}
theorem c_iterT : CallR X (.builtin "iter") (rIterT X.K) := by
  intro pins s σ H xs us Q I r h
  obtain ⟨t, zs, rfl, hq, q⟩ := h
  obtain ⟨u, rfl, rx⟩ := vals1 r
  cases (show u = Value.ref t from rx)
  obtain ⟨its, rv, pl, hz⟩ := I.tuple hq
  refine Calls.call_function_entry (by decide +kernel) (by decide +kernel) PySem.W.kdk_entry_iter (PySem.W.kdk_args_iter _) ?_
  unfold Builtin.«iter»
  refine wpAny_bind (m := someArgs "iter" 1 2 _) (wpAny_of_eq (a := [Value.ref t]) (by first | rfl | kernel_rfl!) ?_)
  show wpAny _ _ (pyIter (.ref t) >>= _) _ _ _
  refine wpAny_bind (wpAny_pyIter_tuple pl ?_)
  refine wpAny_pure ⟨_, rfl, ?_⟩
  exact ⟨.ref s.heap.objs.size, _, I.laid (t' := s.toks) (fun b u e => Heap.get?_push_of_some _ e) (Nat.le_refl _) (titO_ok ⟨_, Heap.get?_push_size _ rfl, rfl, rfl⟩), rfl, q _ (I.hok.fresh (Nat.le_refl _))⟩
/-- the promise of such an __iter__ -/
def spIterT (C : Addr) (f : Str) : Sp := fun vs H Q _ => ∃ a dx fs t zs, vs = [.ref a] ∧ H a = some (.ins C dx fs) ∧ fs.lookup f = some (.ref t) ∧ H t = some (.tup zs) ∧ ∀ it, H it = none → Q (.ref it) (upd H it (TitO t it))
variable {kI kL n : Nat} {C fI fL S a t : Addr} {fdI fdL : FuncData} {psI psL : List Str} {spL : Sp} {f : Str} {A1 : Around} {pins : List (Addr × Obj)} {σ : St} {HA : Hp} {sA : Shared} {dx : Addr} {fs : List (Str × V)} {zs : List V} {Rs : Result → Shared → Prop}
/-- what the own __len__ answers, wherever more is known -/
def TellsLen (spL : Sp) (a : Addr) (H : Hp) (n : Nat) : Prop := ∀ H', (∀ b o, H b = some o → H' b = some o) → spL [.ref a] H' (fun v H2 => v = .int (n : Int) ∧ ∀ b o, H' b = some o → H2 b = some o) (fun _ _ _ => False)
theorem lot_hint {Q : Bool → Shared → Prop} {E : Value → Shared → Prop} {H : Hp} {s : Shared} (ML : SpM X.K C fL "__len__") (FL : FnOk X.prog X.w X.K X.mg X.base CX0 kL fL fdL psL spL) (bL : Binds X.K fdL psL []) (hr : Room (kL + 1) A1) (hfr : A1.frames = X.A.frames)
    (I : Inv X pins σ H s) (ha : H a = some (.ins C dx fs)) (hz : n ≤ 1000) (hL : TellsLen spL a H n)
    (q : ∀ k s' H', Inv X pins σ H' s' → Un (frs X.stack) [] H H' s.heap s'.heap → s'.os = s.os → (∀ b o, H b = some o → H' b = some o) → Q k s') : wpAny (model X.prog X.w) A1 (Builtin.List.listLengthHint (.ref a)) Q E s := by
  obtain ⟨mA, J, _⟩ := ins_get I.hok ha
  obtain ⟨od, J, _⟩ := J.look
  obtain ⟨m0, hF⟩ := I.fr
  unfold Builtin.List.listLengthHint
  refine wpAny_bind (wpAny_bind (J.type.here ((PySem.W.looks_findIn I.kIn ML.hs).here ?_)))
  refine PySem.W.KFB.if_not rfl ?_
  dsimp only
  refine wpAny_ite_split (fun _ => ?_) (fun z => absurd rfl z)
  refine wpAny_bind (wpAny_rule ?_)
  have e0 : Env0 X.prog X.w X.K X.mg X.base A1.in1 X.stack s H := by
    have e := I.env0
    exact ⟨hfr.trans e.frames, e.mod, e.bs, e.bsz, e.funs, e.frf, e.hok, e.bare⟩
  have r2 : Vals [V.ref a] [Value.ref a] := .cons rfl .nil
  have hsp := hL H fun _ _ z => z
  have hlen := FL.len _ _ _ _ hsp
  refine wpAny_bind (wpAny_attempt (PySem.W.len_K hF I.ok.mod.kin J ML.hs ML.hf (wpAny_call (codeAny_mono (FL.run A1.in1 X.stack s H ⟨[.ref a], []⟩ [.ref a] [.ref a] _ _ hr.in1 e0 (by
    have := bL s [.ref a] I.kIn (by simpa using hlen)
    simpa using this) r2 hsp) fun r s1 hq1 => ?_))))
  cases r with
  | error e => exact hq1.elim
  | ok fl =>
    cases fl with
    | next => exact False.elim hq1
    | brk => exact False.elim hq1
    | cont => exact False.elim hq1
    | ret u =>
      obtain ⟨v, H1, os1, bare1, un1, hok1, rv, ev, ex1⟩ := (show CE _ _ _ _ _ _ _ _ from hq1)
      subst ev
      obtain ⟨tk, rfl⟩ := (show ∃ tk, u = Value.int (n : Int) tk from rv)
      obtain ⟨h1, g1, d1, t1, o1⟩ := s1
      cases (show o1 = s.os from os1)
      have I1 : Inv X pins σ H1 _ := I.call (h' := h1) (g' := g1) (d' := d1) (t' := t1 + 1) (ch := []) un1 hok1 bare1 (fun b z => absurd z (by simp))
      refine ⟨⟨Int.natCast_nonneg _, by omega⟩, ?_⟩
      refine wpAny_bind (m := asInt? (.int (n : Int) _)) (wpAny_pure ?_)
      dsimp only
      have small : Builtin.List.listTooLong ((n : Int)).toNat = false := by
        rw [Int.toNat_natCast]
        unfold Builtin.List.listTooLong
        exact decide_eq_false (by rw [sizeLine_eq]; omega)
      refine PySem.W.KFB.if_not small ?_
      exact wpAny_pure (q _ _ H1 I1 un1 rfl ex1)
theorem items_same {its : List Value} {acc : Array Value} (h : ItemsOf (fun i v => its.toArray[i]? = some v) acc its.toArray.size) : acc.toList = its := by
  refine List.ext_getElem? fun j => ?_
  have h1 : acc.size = its.length := h.1.trans List.size_toArray
  cases e : acc[j]? with
  | some u =>
    have q : its.toArray[j]? = some u := h.2 j u e
    rw [List.getElem?_toArray] at q
    rw [Array.getElem?_toList, e, q]
  | none =>
    have l : acc.size ≤ j := Array.getElem?_eq_none_iff.mp e
    rw [Array.getElem?_toList, e, List.getElem?_eq_none (by omega)]
theorem lot_extend (MI : SpM X.K C fI "__iter__") (FI : FnOk X.prog X.w X.K X.mg X.base CX0 kI fI fdI psI (spIterT C f)) (bI : Binds X.K fdI psI []) (ML : SpM X.K C fL "__len__") (FL : FnOk X.prog X.w X.K X.mg X.base CX0 kL fL fdL psL spL) (bL : Binds X.K fdL psL [])
    (rI : Room kI A1.in1) (rL : Room (kL + 1) A1.in1) (hfr : A1.in1.frames = X.A.frames) (IA : Inv X pins σ HA sA) (ha : HA a = some (.ins C dx fs)) (hl : fs.lookup f = some (.ref t)) (ht : HA t = some (.tup zs)) (hz : zs.length ≤ 1000)
    (hL : TellsLen spL a HA zs.length) (hS : HA S = some (.lst [])) (hdone : ∀ s5 H5, Inv X pins σ H5 s5 → (∀ b o, b ≠ S → HA b = some o → H5 b = some o) → H5 S = some (.lst zs) → Rs (.ok (.ret .none)) s5) :
    wpAny (model X.prog X.w) A1.in1 (Builtin.List.listExtendWith (.ref S) (.ref a) .none)
      (fun fin s' => match fin with | .done g => Rs (.ok g) s' | .again cd => cd.quiet = true ∧ codeAny (model X.prog X.w) A1 cd Rs s') (fun e s' => Rs (.error e) s') sA := by
  have neq : S ≠ a := fun z => by rw [z, ha] at hS; cases hS
  obtain ⟨mA, J, _⟩ := ins_get IA.hok ha
  obtain ⟨od, J, _⟩ := J.look
  obtain ⟨m0, hF⟩ := IA.fr
  unfold Builtin.List.listExtendWith
  refine wpAny_bind (J.type.here ?_)
  have z1 : Builtin.List.listSameRef (.ref S) (.ref a) = false := by simp [Builtin.List.listSameRef, neq]
  have z2 : ((Value.ref C) == (Value.type "list")) = false := rfl
  have z3 : ((Value.ref C) == (Value.type "tuple")) = false := rfl
  simp only [z1, z2, z3, Bool.or_false, Bool.false_eq_true, if_false]
  refine wpAny_bind (PySem.W.owit_iter hF IA.ok.mod.kin J MI.hs MI.hf ?_)
  have e0 : Env0 X.prog X.w X.K X.mg X.base A1.in1 X.stack sA HA := by
    have e := IA.env0
    exact ⟨hfr.trans e.frames, e.mod, e.bs, e.bsz, e.funs, e.frf, e.hok, e.bare⟩
  have rv0 : Vals [V.ref a] [Value.ref a] := .cons rfl .nil
  have hsp : spIterT C f [.ref a] HA (fun v H' => ∃ it, HA it = none ∧ v = .ref it ∧ H' = upd HA it (TitO t it)) (fun _ _ _ => False) := ⟨a, dx, fs, t, zs, rfl, ha, hl, ht, fun it hi => ⟨it, hi, rfl, rfl⟩⟩
  have hlen := FI.len _ _ _ _ hsp
  refine wpAny_call (codeAny_mono (FI.run A1.in1 X.stack sA HA ⟨[.ref a], []⟩ [.ref a] [.ref a] _ _ rI e0 (by
    have z := bI sA [.ref a] IA.kIn (by simpa using hlen)
    simpa using z) rv0 hsp) fun r s1 hr1 => ?_)
  cases r with
  | error e => exact hr1.elim
  | ok fl =>
    cases fl with
    | next => exact False.elim hr1
    | brk => exact False.elim hr1
    | cont => exact False.elim hr1
    | ret u =>
      obtain ⟨v, H1, os1, bare1, un1, hok1, rv, it, hit, ev, eH⟩ := (show CE _ _ _ _ _ _ _ _ from hr1)
      subst ev
      subst eH
      cases (show u = Value.ref it from rv)
      obtain ⟨h1, g1, d1, t1, o1⟩ := s1
      cases (show o1 = sA.os from os1)
      have I1 : Inv X pins σ (upd HA it (TitO t it)) _ := IA.call (h' := h1) (g' := g1) (d' := d1) (t' := t1) (ch := []) un1 hok1 bare1 (fun b z => absurd z (by simp))
      have ex1 : ∀ b o, HA b = some o → upd HA it (TitO t it) b = some o := fun b o e => by rw [upd_ne (ne_of_none e hit)]; exact e
      have ti1 : h1.IsTupleIter it t 0 := (hok1 it _ upd_same).1
      show PySem.W.OwitIt _ _ _ _ _ _
      unfold PySem.W.OwitIt
      refine wpAny_specialOf (name := Str.ofString "__next__") (s := ⟨h1, g1, d1, t1, sA.os⟩) ti1.typeIs PySem.F.slot_tuple_iterator_next.lookup ?_
      dsimp only
      refine wpAny_bind (wpAny_holding (lot_hint ML FL bL rL hfr I1 (ex1 _ _ ha) hz (fun H' e => hL H' fun b o z => e b o (ex1 b o z)) fun k s2 H2 I2 un2 os2 ex2 => ?_))
      have nSi : S ≠ it := ne_of_none hS hit
      have hS2 : H2 S = some (.lst []) := ex2 _ _ (ex1 _ _ hS)
      have hT2 : H2 it = some (TitO t it) := ex2 _ _ upd_same
      have ht2 : H2 t = some (.tup zs) := ex2 _ _ (ex1 _ _ ht)
      obtain ⟨its, rvs, pl, hzz⟩ := I2.tuple (.inl (.inl ht2))
      have nti : t ≠ it := ne_of_none ht hit
      have nSt : S ≠ t := fun z => by rw [z, ht] at hS; cases hS
      have hzl := rvs.length
      have un12 : Un (frs X.stack) [] HA H2 sA.heap s2.heap := un1.trans un2
      have nit : sA.heap.get? it = none := by
        cases z : sA.heap.get? it with
        | none => rfl
        | some o =>
          have := un1.free it o z hit (by simp)
          rw [upd_same] at this
          cases this
      have loop : ∀ (s4 : Shared) (c4 : Nat), (∀ b o, b ≠ S → s2.heap.get? b = some o → s4.heap.get? b = some o) → s4.heap.get? S = some { cls := .type "list", dict := none, data := .seq #[] c4, slots := #[] } → s4.gens = s2.gens → s4.os = s2.os →
          codeAny (model X.prog X.w) A1 (.builtin "list.extend.loop" ⟨[.ref S, .ref it, .none], []⟩) Rs s4 := by
        intro s4 c4 k4 e4 q4 o4
        have hh : A1.in1.handled = none := rI.hd
        have W := (Walks.tuple (prog := X.prog) (w := X.w) (A := A1.in1) hh it t nti its.toArray).toS
        have st0 : s4.heap.IsTupleIter it t 0 ∧ s4.heap.IsTuple t its.toArray := by
          refine ⟨?_, ?_⟩
          · obtain ⟨o, ho, r⟩ := (I2.hok it _ hT2).1
            exact ⟨o, k4 _ _ (Ne.symm nSi) ho, r⟩
          · obtain ⟨o, ho, r⟩ := pl
            exact ⟨o, k4 _ _ (Ne.symm nSt) ho, r⟩
        refine codeAny_extend_loopS W (by rw [List.size_toArray, sizeLine_eq]; omega) S (by simp [nSi, nSt]) .none _ 0 s4 #[] c4 rfl (Nat.zero_le _) st0 e4 (ItemsOf.nil _) fun s5 acc c5 mv e5 hacc => ?_
        have eacc : acc.toList = its := items_same hacc
        have k5 : ∀ b o, b ≠ S → b ≠ it → s2.heap.get? b = some o → s5.heap.get? b = some o := fun b o n1 n2 e => mv.heap b o (by simp [n1, n2]) (k4 b o n1 e)
        have un5 : Un (frs X.stack) [] HA (upd (del H2 it) S (.lst zs)) sA.heap s5.heap := by
          have nS : ∀ b, HA b = none → b ≠ S := fun b n z => by rw [z, hS] at n; cases n
          have nI : ∀ b o, sA.heap.get? b = some o → b ≠ it := fun b o e z => by rw [z, nit] at e; cases e
          have old : ∀ b y, HA b = some y → (∀ xs, y ≠ .lst xs) → upd (del H2 it) S (.lst zs) b = some y := fun b y e n => by
            rw [upd_ne (fun z => by rw [z, hS] at e; cases e; exact n _ rfl), del_ne (ne_of_none e hit)]
            exact ex2 _ _ (ex1 _ _ e)
          refine ⟨fun b o e n hb hx => k5 b o (nS b n) (nI b o e) (un12.keep b o e n hb hx), fun b o e n hb hx => ?_, fun b o e n hx => ?_, fun b o e hx => ?_, fun b xs e => old b _ e (fun _ z => nomatch z), fun b o y e => old b _ e (fun _ z => nomatch z), fun b ps e => ⟨#[], ?_⟩⟩
          · obtain ⟨sl, e'⟩ := un12.slot b o e n hb hx
            exact ⟨sl, k5 b _ (nS b n) (nI b o e) e'⟩
          · rw [upd_ne (nS b n), del_ne (nI b o e)]; exact un12.free b o e n hx
          · by_cases z : b = S
            · rw [z]; exact ⟨_, e5⟩
            · obtain ⟨o', e'⟩ := un12.there b o e hx
              exact ⟨o', k5 b o' z (nI b o e) e'⟩
          · rw [old b _ e (fun _ z => nomatch z)]; simp
        have hok5 : HOk X.prog X.w (upd (del H2 it) S (.lst zs)) s5.heap := fun b y e => by
          by_cases z : b = S
          · rw [z, upd_same] at e
            cases e
            rw [z]
            refine ⟨by rw [sizeLine_eq]; omega, its, c5, rvs, ?_⟩
            rw [← eacc, Array.toArray_toList]
            exact e5
          · rw [upd_ne z] at e
            have n2 : b ≠ it := fun w => by rw [w, del_same] at e; cases e
            rw [del_ne n2] at e
            have same : ∀ c y, H2 c = some y → (∀ xs, y ≠ .lst xs) → (∀ g, y ≠ .ext g) → upd (del H2 it) S (.lst zs) c = some y := fun c y e n m => by
              rw [upd_ne (fun z => by rw [z, hS2] at e; cases e; exact n _ rfl), del_ne (fun z => by rw [z, hT2] at e; cases e; exact m _ rfl)]
              exact e
            refine (I2.hok b y e).stay (fun c x hc q => k5 c x ?_ ?_ q) (fun c q => same c _ q (fun _ w => nomatch w) (fun _ w => nomatch w)) fun c xs q => same c _ q (fun _ w => nomatch w) (fun _ w => nomatch w)
            · rcases hc with hc | hc
              · rw [hc]; exact z
              · exact fun w => by rw [w, hS2] at hc; cases hc
            · rcases hc with hc | hc
              · rw [hc]; exact n2
              · exact fun w => by rw [w, hT2] at hc; cases hc
        obtain ⟨h5, g5, d5, t5, o5⟩ := s5
        have bare5 : AllBare g5 := by
          have : g5 = s4.gens := mv.gens
          rw [this, q4]
          exact I2.bare
        cases (show o5 = sA.os from (mv.os.trans o4).trans os2)
        refine hdone _ _ (IA.call (h' := h5) (g' := g5) (d' := d5) (t' := t5) (ch := []) un5 hok5 bare5 (fun b z => absurd z (by simp))) (fun b o nb e => ?_) upd_same
        rw [upd_ne nb, del_ne (ne_of_none e hit)]
        exact ex2 _ _ (ex1 _ _ e)
      obtain ⟨z4, its4, k4, r4, hl4, e4⟩ := I2.lstM hS2
      cases r4
      refine wpAny_ite_split (fun _ => ?_) (fun _ => wpAny_pure ⟨plainId_quiet PySem.F.plain_extend_loop _, loop s2 k4 (fun _ _ _ e => e) e4 rfl rfl⟩)
      refine wpAny_bind (wpAny_rule (wpAny_bind ?_))
      show wpAny _ _ (updateSeq S (·.push .none) >>= fun _ => updateSeq S (·.pop)) _ _ _
      refine wpAny_bind (wpAny_updateSeq e4 rfl ?_)
      have q1 := PySem.IsL.update e4 (·.push Value.none)
      refine wpAny_updateSeq q1 rfl ?_ (by show 1 ≤ sizeLine; rw [sizeLine_eq]; decide) (by show 0 ≤ sizeLine + 1; exact Nat.zero_le _)
      have q2 := PySem.IsL.update q1 (·.pop)
      refine wpAny_pure ⟨plainId_quiet PySem.F.plain_extend_loop _, loop _ _ (fun b o nb e => ?_) q2 rfl rfl⟩
      exact (Heap.get?_update_other _ _ (Ne.symm nb)).trans ((Heap.get?_update_other _ _ (Ne.symm nb)).trans e)
/-- list(o) -/
def rListOT (C : Addr) (f : Str) (spL : Sp) : List V → Hp → VK → Prop := fun xs H Q => ∃ a dx fs t zs, xs = [.ref a] ∧ H a = some (.ins C dx fs) ∧ fs.lookup f = some (.ref t) ∧ H t = some (.tup zs) ∧ zs.length ≤ 1000 ∧ TellsLen spL a H zs.length ∧
  ∀ q H', H q = none → (∀ b o, H b = some o → H' b = some o) → H' q = some (.lst zs) → Q (.ref q) H'
theorem c_listOT (MI : SpM X.K C fI "__iter__") (FI : FnOk X.prog X.w X.K X.mg X.base CX0 kI fI fdI psI (spIterT C f)) (bI : Binds X.K fdI psI []) (ML : SpM X.K C fL "__len__") (FL : FnOk X.prog X.w X.K X.mg X.base CX0 kL fL fdL psL spL) (bL : Binds X.K fdL psL [])
    (rI : Room (kI + 2) X.A) (rL : Room (kL + 3) X.A) : CallR X (.type "list") (rListOT C f spL) := by
  intro pins s σ H xs us Q I rv h
  obtain ⟨a, dx, fs, t, zs, rfl, ha, hl, ht, hz, hL, hq⟩ := h
  obtain ⟨u, rfl, ru⟩ := vals1 rv
  cases (show u = Value.ref a from ru)
  refine callType_codes (Q₁ := fun ob z => ob = .ref s.heap.objs.size ∧ z = { s with heap := s.heap.push { cls := .type "list", data := .seq #[] } })
    PySem.F.called_list (PySem.F.typeCall_list_1 _) PySem.F.entry_list_init (code_list_new _ ⟨rfl, rfl⟩) fun ob z hoz => ?_
  obtain ⟨rfl, rfl⟩ := hoz
  have gS : (s.heap.push { cls := .type "list", data := .seq #[] }).get? s.heap.objs.size = some { cls := .type "list", data := .seq #[] } := Heap.get?_push_size _ rfl
  refine ⟨⟨_, gS, rfl⟩, PySem.F.args_list_init_2 _ _, ?_⟩
  have nS : H s.heap.objs.size = none := I.hok.fresh (Nat.le_refl _)
  have J1 : Inv X pins σ (upd H s.heap.objs.size (.lst [])) { s with heap := s.heap.push { cls := .type "list", data := .seq #[] } } := I.lnew (its := []) (t' := s.toks) .nil (Nat.zero_le _)
  show wpAny _ _ (do
    let old ← Builtin.List.listItems (.ref s.heap.objs.size)
    Builtin.List.listUpdate (.ref s.heap.objs.size) (fun _ => #[])
    letGo old.toList.reverse
    Builtin.List.listExtendWith (.ref s.heap.objs.size) (.ref a) .none) _ _ _
  refine wpAny_bind ?_
  unfold Builtin.List.listItems
  refine wpAny_bind (wpAny_seqItems gS rfl (wpAny_pure ?_))
  show wpAny _ _ (updateSeq s.heap.objs.size (fun _ => #[]) >>= fun _ =>
    letGo (#[] : Array Value).toList.reverse >>= fun _ =>
    Builtin.List.listExtendWith (.ref s.heap.objs.size) (.ref a) .none) _ _ _
  refine wpAny_bind (wpAny_updateSeq gS rfl ?_)
  have J2 := J1.lset (f := fun _ => #[]) (its := []) (its' := []) (ys := []) (t' := s.toks) upd_same gS rfl .nil (Nat.zero_le _)
  rw [upd_upd] at J2
  refine wpAny_bind (wpAny_letGo ?_)
  have old : ∀ b o, H b = some o → upd H s.heap.objs.size (.lst []) b = some o := fun b o e => by rw [upd_ne (ne_of_none e nS)]; exact e
  exact lot_extend (A1 := X.A.in1) (Rs := wants (fun r z => r = .none ∧ EP X pins σ Q (.ref s.heap.objs.size) z) X.xe) MI FI bI ML FL bL (Room.in1 (Room.in1 rI)) (Room.in1 (Room.in1 rL)) rfl J2 (old _ _ ha) hl (old _ _ ht) hz
    (fun H' e => hL H' fun b o z => e b o (old b o z)) upd_same
    (fun s5 H5 I5 e5 q5 => ⟨rfl, .ref s.heap.objs.size, H5, I5, rfl, hq _ H5 nS (fun b o z => e5 b o (ne_of_none z nS) (old b o z)) q5⟩)
end
end L2

/-! for x in o, o of an own class whose __iter__ gives iter(t), t a tuple of its: the iterator is young. -/
namespace L2
open PySem PySem.Spec PyProof.Rows
/-- a promise that may tell the heap's size at the entry -/
structure FnN (P : Program) (w : World) (K : PySem.W.Frag) (mg : Str → Option Value) (base : Heap) (CX : CXT) (k : Nat) (f : Addr) (fd : FuncData) (ps : List Str) (sp : Nat → Sp) : Prop where
  len : ∀ n vs H Q E, sp n vs H Q E → vs.length = ps.length
  run : ∀ (A : Around) (outer : List Env) (s : Shared) (H : Hp) (args : Args) (us : List Value) (vs : List V) (Q : VK) (E : XK), Room k A → Env0 P w K mg base A outer s H → BindsTo s fd args (ps.zip us) → Vals vs us → sp s.heap.objs.size vs H Q E →
    codeAny (model P w) A (.call (.ref f) args) (CR CX outer P w H s Q E) s
theorem Fun.okN {P : Program} {w : World} {K : PySem.W.Frag} {mg : Str → Option Value} {base : Heap} {x qual : Str} {st : Stmt} {f : Addr} {fd : FuncData} {N ps : List Str} {k : Nat} {sp : Nat → Sp} (F : Fun K x qual st f fd) (S : FnScope N ps (defScope st)) (len : ∀ n vs H Q E, sp n vs H Q E → vs.length = ps.length)
    (hb : ∀ (cdv : Value) (A : Around) (outer : List Env) (s : Shared) (H : Hp) (vs : List V) (Q : VK) (E : XK), Room k (A.deeper (envOfC qual (defScope st) s.heap.objs.size f cdv)) → sp s.heap.objs.size vs H Q E →
      ∃ t, PSs (cxOf CX0 P w K mg base N qual (defScope st) f cdv A outer s H E).nox (defBody st) t ∧ t { nx := fun _ H' => Q .non H', rt := Q } (start N vs) H) : FnN P w K mg base CX0 (k + 1) f fd ps sp := by
  obtain ⟨oc, od, kV, doc, pm, an, cdv, ct, osl, rfl, lk, hcd⟩ := F.ex
  refine ⟨len, fun A outer s H args us vs Q E hr e0 hbd r hsp => LamX.run_ofS lk hcd S hr e0 hbd r (len _ _ _ _ _ hsp) fun hr' => ?_⟩
  obtain ⟨t, h, q⟩ := hb cdv A outer s H vs Q E hr' hsp
  exact ⟨t, h.nox, q⟩
def rIterTN (K : PySem.W.Frag) (n : Nat) : List V → Hp → VK → Prop := fun xs H Q => ∃ (t : Addr) (zs : List V), xs = [.ref t] ∧ SqT K H t zs ∧ ∀ it, H it = none → n ≤ it → Q (.ref it) (upd H it (TitO t it))
section
variable {X : Cx}
theorem c_iterTN : CallR X (.builtin "iter") (rIterTN X.K X.s_0.heap.objs.size) := by
  intro pins s σ H xs us Q I r h
  obtain ⟨t, zs, rfl, hq, q⟩ := h
  obtain ⟨u, rfl, rx⟩ := vals1 r
  cases (show u = Value.ref t from rx)
  obtain ⟨its, rv, pl, hz⟩ := I.tuple hq
  refine Calls.call_function_entry (by decide +kernel) (by decide +kernel) PySem.W.kdk_entry_iter (PySem.W.kdk_args_iter _) ?_
  unfold Builtin.«iter»
  refine wpAny_bind (m := someArgs "iter" 1 2 _) (wpAny_of_eq (a := [Value.ref t]) (by first | rfl | kernel_rfl!) ?_)
  show wpAny _ _ (pyIter (.ref t) >>= _) _ _ _
  refine wpAny_bind (wpAny_pyIter_tuple pl (wpAny_pure ⟨_, rfl, ?_⟩))
  exact ⟨.ref s.heap.objs.size, _, I.laid (t' := s.toks) (fun b u e => Heap.get?_push_of_some _ e) (Nat.le_refl _) (titO_ok ⟨_, Heap.get?_push_size _ rfl, rfl, rfl⟩), rfl, q _ (I.hok.fresh (Nat.le_refl _)) I.sz⟩
def spIterN (C : Addr) (f : Str) : Nat → Sp := fun n vs H Q _ => ∃ a dx fs t zs, vs = [.ref a] ∧ H a = some (.ins C dx fs) ∧ fs.lookup f = some (.ref t) ∧ H t = some (.tup zs) ∧ ∀ it, H it = none → n ≤ it → Q (.ref it) (upd H it (TitO t it))
theorem FnN.plain {P : Program} {w : World} {K : PySem.W.Frag} {mg : Str → Option Value} {base : Heap} {k : Nat} {f C : Addr} {fd : FuncData} {ps : List Str} {g : Str} (F : FnN P w K mg base CX0 k f fd ps (spIterN C g)) : FnOk P w K mg base CX0 k f fd ps (spIterT C g) :=
  ⟨fun vs H Q E h => F.len 0 vs H Q E (let ⟨a, dx, fs, t, zs, h1, h2, h3, h4, q⟩ := h; ⟨a, dx, fs, t, zs, h1, h2, h3, h4, fun it hi _ => q it hi⟩),
   fun A outer s H args us vs Q E hr e0 hb r h => F.run A outer s H args us vs Q E hr e0 hb r (let ⟨a, dx, fs, t, zs, h1, h2, h3, h4, q⟩ := h; ⟨a, dx, fs, t, zs, h1, h2, h3, h4, fun it hi _ => q it hi⟩)⟩
/-- for .. in e, e of such a class -/
def iOwnT (K : PySem.W.Frag) (C : Addr) (f : Str) (te : TE) : TI := fun σ H R => te σ H fun x H1 => ∃ a dx fs t zs, x = .ref a ∧ H1 a = some (.ins C dx fs) ∧ fs.lookup f = some (.ref t) ∧ H1 t = some (.tup zs) ∧ R (Itt K t) H1
variable {kI : Nat} {C fI : Addr} {fdI : FuncData} {psI : List Str} {f : Str} {e tg : Expr} {te : TE}
theorem pi_ownT (MI : SpM X.K C fI "__iter__") (FI : FnN X.prog X.w X.K X.mg X.base CX0 kI fI fdI psI (spIterN C f)) (bI : Binds X.K fdI psI []) (rI : Room kI X.A) (he : PE X e te) : PI X tg e (iOwnT X.K C f te) := by
  refine ⟨fun pins s σ H R I h => ?_⟩
  refine thn (he.run pins s σ H _ I h) fun v s0 ⟨x, HA, IA, rx, a, dx, fs, t, zs, ex, ha, hl, ht, q⟩ => ?_
  subst ex
  cases (show v = Value.ref a from rx)
  obtain ⟨mA, J, _⟩ := ins_get IA.hok ha
  obtain ⟨od, J, _⟩ := J.look
  obtain ⟨m0, hF⟩ := IA.fr
  refine PySem.W.owit_iter hF IA.ok.mod.kin J MI.hs MI.hf ?_
  have rv0 : Vals [V.ref a] [Value.ref a] := .cons rfl .nil
  have hsp : spIterN C f s0.heap.objs.size [.ref a] HA (fun v H' => ∃ it, HA it = none ∧ s0.heap.objs.size ≤ it ∧ v = .ref it ∧ H' = upd HA it (TitO t it)) (fun _ _ _ => False) := ⟨a, dx, fs, t, zs, rfl, ha, hl, ht, fun it hi hn => ⟨it, hi, hn, rfl, rfl⟩⟩
  have hlen := FI.len _ _ _ _ _ hsp
  refine wpAny_call (codeAny_mono (FI.run X.A X.stack s0 HA ⟨[.ref a], []⟩ [.ref a] [.ref a] _ _ rI IA.env0 (by
    have z := bI s0 [.ref a] IA.kIn (by simpa using hlen)
    simpa using z) rv0 hsp) fun r s1 hr1 => ?_)
  cases r with
  | error e => exact hr1.elim
  | ok fl =>
    cases fl with
    | next => exact False.elim hr1
    | brk => exact False.elim hr1
    | cont => exact False.elim hr1
    | ret u =>
      obtain ⟨v, H1, I1, rv, it, hit, hy, ev, eH⟩ := IA.after hr1
      subst ev
      subst eH
      cases (show u = Value.ref it from rv)
      have ti1 : s1.heap.IsTupleIter it t 0 := (I1.hok it _ upd_same).1
      show PySem.W.OwitIt _ _ _ _ _ _
      unfold PySem.W.OwitIt
      refine wpAny_specialOf (name := Str.ofString "__next__") ti1.typeIs PySem.F.slot_tuple_iterator_next.lookup ?_
      dsimp only
      have I2 := ItX.inv_drop I1 upd_same
      have fp := ItX.inv_fp I1 upd_same (Nat.le_trans IA.sz hy)
      rw [ItX.dropH_upd hit] at I2 fp
      exact ⟨it, [it], _, _, HA, rfl, I2, turn_tuple t it, ti1, fun b hb => by rw [List.mem_singleton.mp hb]; exact fp, q⟩
end
end L2

/-! Loops and comprehensions over what is known: lists, tuples, ranges, own classes. -/
namespace AW
open PySem PySem.Spec PyProof.Rows L2
/-- what an iterator gives, as long as ka holds -/
def Gives (J : It) (xs : List V) (ka : Hp → Prop) : Prop := ∀ kn H, Ext kn H → ka kn →
  (∀ i, i < xs.length → J.go i H) ∧ (∀ i, xs.length ≤ i → J.stop i H) ∧ ∀ i x H', J.yld i H x H' → H' = H ∧ (i < xs.length → xs[i]? = some x)
def WI (c : Cw) (wi : Hp → (It → Hp → Prop) → Prop) (kn : Hp) (n : Nat) (R : It → Hp → Nat → Prop) : Prop :=
  ∀ H, Good c kn n H → ∀ R' : It → Hp → Prop, (∀ J kn' n' H', R J kn' n' → Good c kn' n' H' → R' J H') → wi H R'
section
variable {K : PySem.W.Frag} {a : Addr} {xs : List V}
theorem gives_tup : Gives (Itt K a) xs fun kn => kn a = some (.tup xs) := fun kn H e h =>
  ⟨fun i hi => ⟨xs, xs[i], sqt (e _ _ h), List.getElem?_eq_getElem hi⟩, fun i hi => ⟨xs, sqt (e _ _ h), hi⟩, fun i x H' y => ⟨y.1, fun _ => y.2 xs (sqt (e _ _ h))⟩⟩
theorem gives_lst : Gives (Itl K a) xs fun kn => kn a = some (.lst xs) := fun kn H e h =>
  ⟨fun i hi => ⟨xs, xs[i], sql (e _ _ h), List.getElem?_eq_getElem hi⟩, fun i hi => ⟨xs, sql (e _ _ h), hi⟩, fun i x H' y => ⟨y.1, fun _ => y.2 xs (sql (e _ _ h))⟩⟩
theorem gives_rng {lo : Int} {m : Nat} : Gives (Itr lo m) ((List.range m).map fun i => V.int (lo + (i : Nat))) fun _ => True := fun kn H e h =>
  ⟨fun i hi => by rw [List.length_map, List.length_range] at hi; exact hi, fun i hi => by rw [List.length_map, List.length_range] at hi; exact hi,
   fun i x H' y => ⟨y.1, fun hi => by rw [List.length_map, List.length_range] at hi; rw [List.getElem?_map, List.getElem?_range hi, y.2]; rfl⟩⟩
variable {c : Cw} {kn : Hp} {n : Nat} {σ : L2.St} {R : It → Hp → Nat → Prop} {te : TE} {ta : TA}
theorem i_tup (h : W c (te σ) kn n fun x kn1 n1 => ∃ a xs, x = .ref a ∧ kn1 a = some (.tup xs) ∧ R (Itt K a) kn1 n1) : WI c (iTup K te σ) kn n R :=
  fun H g R' q => h H g _ fun x kn1 n1 H1 ⟨a, xs, e, ha, hr⟩ g1 => ⟨a, e, ⟨xs, sqt (g1.ex _ _ ha)⟩, q _ _ _ _ hr g1⟩
theorem i_list (h : W c (te σ) kn n fun x kn1 n1 => ∃ a xs, x = .ref a ∧ kn1 a = some (.lst xs) ∧ R (Itl K a) kn1 n1) : WI c (iList K te σ) kn n R :=
  fun H g R' q => h H g _ fun x kn1 n1 H1 ⟨a, xs, e, ha, hr⟩ g1 => ⟨a, e, ⟨xs, sql (g1.ex _ _ ha)⟩, q _ _ _ _ hr g1⟩
theorem i_rng1 (h : W c (ta σ) kn n fun vs kn1 n1 => ∃ j : Int, vs = [.int j] ∧ -(2 ^ 62) ≤ j ∧ j < 2 ^ 62 ∧ R (Itr 0 j.toNat) kn1 n1) : WI c (iRng1 ta σ) kn n R :=
  fun H g R' q => h H g _ fun vs kn1 n1 H1 ⟨j, e, b1, b2, hr⟩ g1 => ⟨j, e, b1, b2, q _ _ _ _ hr g1⟩
theorem i_rng2 (h : W c (ta σ) kn n fun vs kn1 n1 => ∃ i j : Int, vs = [.int i, .int j] ∧ (-(2 ^ 62) ≤ i ∧ i < 2 ^ 62 ∧ -(2 ^ 62) ≤ j ∧ j < 2 ^ 62) ∧ R (Itr i (j - i).toNat) kn1 n1) : WI c (iRng2 ta σ) kn n R :=
  fun H g R' q => h H g _ fun vs kn1 n1 H1 ⟨i, j, e, b, hr⟩ g1 => ⟨i, j, e, b, q _ _ _ _ hr g1⟩
theorem i_own {C : Addr} {f : Str} (h : W c (te σ) kn n fun x kn1 n1 => ∃ a dx fs t zs, x = .ref a ∧ kn1 a = some (.ins C dx fs) ∧ fs.lookup f = some (.ref t) ∧ kn1 t = some (.tup zs) ∧ R (Itt K t) kn1 n1) : WI c (iOwnT K C f te σ) kn n R :=
  fun H g R' q => h H g _ fun x kn1 n1 H1 ⟨a, dx, fs, t, zs, e, ha, hl, ht, hr⟩ g1 => ⟨a, dx, fs, t, zs, e, g1.ex _ _ ha, hl, g1.ex _ _ ht, q _ _ _ _ hr g1⟩
/-- a loop -/
theorem s_forJ {D : AE} {wi : TI} {gt : TG} {tb : TS}
    (h : WI c (wi σ) kn n fun J kn1 n1 => ∃ (xs : List V) (ka : Hp → Prop) (Pv : Nat → L2.St → Hp → Nat → Prop), Gives J xs ka ∧ Pv 0 σ kn1 n1 ∧ (∀ i σ' kn' n', Pv i σ' kn' n' → ka kn') ∧
      (∀ i x σ' kn' n', xs[i]? = some x → Pv i σ' kn' n' → WG c gt x σ' kn' n' fun σ2 kn2 n2 => WS c tb { D with nx := Pv (i + 1), ct := Pv (i + 1), bk := D.nx } σ2 kn2 n2) ∧
      ∀ σ' kn' n', Pv xs.length σ' kn' n' → D.nx σ' kn' n') : WS c (tFor wi gt tb) D σ kn n := by
  intro H g D' f
  refine h H g _ fun J kn1 n1 H1 hJ g1 => ?_
  obtain ⟨xs, ka, Pv, hG, h0, hk, hs, hd⟩ := hJ
  refine ⟨fun i m σ' H' => m = xs.length - i ∧ i ≤ xs.length ∧ ∃ kn' n', Pv i σ' kn' n' ∧ Good c kn' n' H', ⟨_, rfl, Nat.zero_le _, kn1, n1, h0, g1⟩, ?_⟩
  rintro i m σ' H' ⟨rfl, hi, kn', n', p, g'⟩
  obtain ⟨q1, q2, q3⟩ := hG kn' H' g'.ex (hk _ _ _ _ p)
  by_cases hlt : i < xs.length
  · refine .inr ⟨q1 i hlt, fun σ2 H2 => ∃ kn2 n2, Pv (i + 1) σ2 kn2 n2 ∧ Good c kn2 n2 H2, fun σ2 H2 ⟨kn2, n2, p2, g2⟩ => ⟨xs.length - (i + 1), by omega, rfl, hlt, kn2, n2, p2, g2⟩, fun x H2 y => ?_⟩
    obtain ⟨e, hx⟩ := q3 i x H2 y
    subst e
    refine hs i x σ' kn' n' (hx hlt) p H2 g' _ fun σ3 kn3 n3 H3 h3 g3 => h3 H3 g3 _ ⟨fun σ4 kn4 n4 H4 h4 g4 => ⟨kn4, n4, h4, g4⟩, f.rt, fun σ4 kn4 n4 H4 h4 g4 => f.nx _ _ _ _ h4 g4, fun σ4 kn4 n4 H4 h4 g4 => ⟨kn4, n4, h4, g4⟩⟩
  · have e : i = xs.length := Nat.le_antisymm hi (Nat.le_of_not_lt hlt)
    exact .inl ⟨q2 i (Nat.le_of_not_lt hlt), f.nx _ _ _ _ (hd σ' kn' n' (e ▸ p)) g'⟩
/-- a comprehension of a list -/
theorem w_lc {Q : V → Hp → Nat → Prop} {wi : TI} {gt : TG} {tt : TT} {vs : List Nat}
    (h : WI c (wi σ) kn n fun J kn1 n1 => ∃ (xs : List V) (ka : Hp → Prop) (Pv : Addr → Nat → List V → Hp → Nat → Prop), Gives J xs ka ∧ xs.length ≤ 100000 ∧ (∀ D, kn1 D = none → Pv D 0 [] (upd kn1 D (.lst [])) n1) ∧
      (∀ D i acc kn' n', Pv D i acc kn' n' → ka kn' ∧ kn' D = some (.lst acc) ∧ acc.length ≤ i) ∧
      (∀ D i acc x kn' n', xs[i]? = some x → Pv D i acc kn' n' → WG c gt x (wipe σ vs) kn' n' fun σ2 kn2 n2 => wipe σ2 vs = wipe σ vs ∧ W c (tt σ2) kn2 n2 fun b kn3 n3 =>
        (b = true → W c (te σ2) kn3 n3 fun y kn4 n4 => kn4 D = some (.lst acc) ∧ Pv D (i + 1) (acc ++ [y]) (upd kn4 D (.lst (acc ++ [y]))) n4) ∧ (b = false → Pv D (i + 1) acc kn3 n3)) ∧
      ∀ D acc kn' n', Pv D xs.length acc kn' n' → Q (.ref D) kn' n') : W c (tLc wi gt tt te vs σ) kn n Q := by
  intro H g Q' q
  refine h H g _ fun J kn1 n1 H1 hJ g1 => ?_
  obtain ⟨xs, ka, Pv, hG, hz, h0, hk, hs, hd⟩ := hJ
  intro D hD
  refine ⟨fun i m H' => m = xs.length - i ∧ i ≤ xs.length ∧ ∃ acc kn' n', Pv D i acc kn' n' ∧ Good c kn' n' H', ⟨_, rfl, Nat.zero_le _, [], _, _, h0 D (g1.free hD), g1.new hD⟩, ?_⟩
  rintro i m H' ⟨rfl, hi, acc, kn', n', p, g'⟩
  obtain ⟨k1, k2, k3⟩ := hk _ _ _ _ _ p
  obtain ⟨q1, q2, q3⟩ := hG kn' H' g'.ex k1
  by_cases hlt : i < xs.length
  · refine .inr ⟨q1 i hlt, fun H2 => ∃ acc kn2 n2, Pv D (i + 1) acc kn2 n2 ∧ Good c kn2 n2 H2, fun H2 ⟨acc, kn2, n2, p2, g2⟩ => ⟨xs.length - (i + 1), by omega, rfl, hlt, acc, kn2, n2, p2, g2⟩, fun x H2 y => ?_⟩
    obtain ⟨e, hx⟩ := q3 i x H2 y
    subst e
    refine hs D i acc x kn' n' (hx hlt) p H2 g' _ fun σ3 kn3 n3 H3 h3 g3 => ⟨h3.1, h3.2 H3 g3 _ fun b kn4 n4 H4 h4 g4 => ?_⟩
    cases b with
    | true => exact iteT (h4.1 rfl H4 g4 _ fun y kn5 n5 H5 h5 g5 => ⟨acc, g5.ex _ _ h5.1, by rw [sizeLine_eq]; omega, _, _, _, h5.2, g5.put h5.1 rfl⟩)
    | false => exact iteF ⟨_, _, _, h4.2 rfl, g4⟩
  · have e : i = xs.length := Nat.le_antisymm hi (Nat.le_of_not_lt hlt)
    exact .inl ⟨q2 i (Nat.le_of_not_lt hlt), q _ _ _ _ (hd D acc kn' n' (e ▸ p)) g'⟩
end
end AW

/-! bool(o) by an own __bool__; static methods; loops over lists or tuples; isinstance with a tuple; all. -/
namespace L2
open PySem PySem.Spec PyProof.Rows
theorem bool_new_own {prog : Program} {w : World} {x : Addr} : MeetsIn prog w (Builtin.«bool.__new__» ⟨[.type "bool", .ref x], []⟩) (fun A R s => wpAny (model prog w) A.in1 (truthy (.ref x)) (fun b s' => R (.ok (.ret (.bool b))) { s' with toks := s'.toks }) (fun e s' => R (.error e) s') s) := by
  intro A R s h
  obtain ⟨hp, g, d, tk, os⟩ := s
  have f1 := F.conv_sub_bool
  repeat (any_goals (first | assumption | (with_reducible refine wpAny_mono h (fun b s' hb => ?_) (fun _ _ z => z)) | wp_step))
  all_goals first | exact hb | exact ⟨_, rfl, hb⟩
section
variable {X : Cx} {CX : CXT} {k : Nat} {f C p : Addr} {fd : FuncData} {ps : List Str} {sp : Sp} {E : XK}
/-- bool(o) -/
def rBoolO (C : Addr) (sp : Sp) : List V → Hp → VK → Prop := fun xs H Q => ∃ a dx fs, xs = [.ref a] ∧ H a = some (.ins C dx fs) ∧ sp [.ref a] H (fun v H' => ∃ b, v = .bl b ∧ Q (.bl b) H') (fun _ _ _ => False)
theorem c_boolO (M : SpM X.K C f "__bool__") (F : FnOk X.prog X.w X.K X.mg X.base CX k f fd ps sp) (hr : Room (k + 2) X.A) (hb : Binds X.K fd ps []) (hx : Passes CX X (fun _ _ _ => False)) : CallR X (.type "bool") (rBoolO C sp) := by
  intro pins s σ H xs us Q I r h
  obtain ⟨a, dx, fs, rfl, ha, hq⟩ := h
  obtain ⟨u, rfl, rx⟩ := vals1 r
  cases (show u = Value.ref a from rx)
  obtain ⟨_, J, _⟩ := ins_get I.hok ha
  obtain ⟨_, J, _⟩ := J.look
  obtain ⟨_, hF⟩ := I.fr
  refine callType_newIn PySem.F.called_bool PySem.F.newNe_bool (PySem.F.typeCall_bool_1 _) (PySem.F.newCall_bool_1 _) (fun obj => PySem.F.args_object_init_2 obj _) PySem.F.entry_bool_new bool_new_own ?_
  refine PySem.W.truthy_K hF I.ok.mod.kin J M.hs M.hf (wpAny_mono (callA (A := X.A.in1.in1) (vs := [.ref a]) F hr.in1.in1 rfl hb hx I (.cons rfl .nil) hq) (fun z s' hz => ?_) fun _ _ z => z)
  obtain ⟨v', H', I', rv, b, e, q⟩ := hz
  subst e
  cases (show z = Value.bool b from rv)
  exact ⟨PySem.typeIs_bool _ _, .bl b, H', I', rfl, q⟩
end
end L2
namespace L2
open PySem PySem.Spec PyProof.Rows ClX
/-- C.m is a static method: its record at p, its def at f -/
structure SMet (K : PySem.W.Frag) (C : Addr) (mc : Value) (m : Str) (p f : Addr) : Prop where
  at_ : PySem.W.findCls K (.ref C) mc m = some (.get (.builtin "staticmethod.__get__") (.ref p) .none (.ref C))
  rc : ∃ rest, PySem.W.recIn K p "staticmethod" = some (.ref f :: rest)
  kp : PySem.W.keepIn K (.ref f) = true
section
variable {X : Cx} {CX : CXT} {k : Nat} {f C p : Addr} {mc : Value} {m : Str} {fd : FuncData} {ps : List Str} {sp : Sp} {E : XK} {o e : Expr} {es : List Expr} {pos apos : Pos} {ta : TE} {t : TA} {pl : Sem Bool} {pins : List (Addr × Obj)} {σ : St} {H : Hp} {s : Shared}
theorem getsm_ok {A : Around} {E : Value → Shared → Prop} {Q : Value × List Value → Shared → Prop} (I : Inv X pins σ H s) (r : CRead X.K C mc) (c : SMet X.K C mc m p f) (h : ∀ s', Inv X pins σ H s' → Q (.ref f, []) s') : wpAny (model X.prog X.w) A (getMethod (.ref C) m pl) Q E s := by
  obtain ⟨rest, hp⟩ := c.rc
  exact PySem.W.method_cls I.kIn r.ga (PySem.W.cls_bind I.kIn r.rd c.at_ (wpAny_call (PySem.W.sm_get (s := { s with toks := s.toks + 1 }) I.kIn hp (PySem.W.handed_on rfl (h _ (I.tok _))))))
def tSMeth (C : Addr) (sp : Sp) (E : XK) (ta : TE) (t : TA) : TE := fun σ H Q => ta σ H fun x H1 => x = .ref C ∧ t σ H1 fun vs H2 => sp vs H2 Q E
theorem pe_smeth (he : PE X o ta) (r : CRead X.K C mc) (c : SMet X.K C mc m p f) (F : FnR X.prog X.w X.K X.mg X.base CX k f sp) (hr : Room k X.A) (hx : Passes CX X E) (ha : PA X (e :: es) t)
    (hst : starEach (e :: es) X.env = (false, eval e X.env) :: starEach es X.env := by rfl) (hpl : (backTo pos (starEach es X.env)).any (·.1) = false := by rfl)
    (ht : eval (.Call (.Attribute o m apos) (e :: es) [] pos) X.env = (do
      let ov ← eval o X.env
      standAt apos.atName
      let (f, first) ← holding [ov] (getMethod ov m pl)
      callWith pos f first (backTo pos (starEach (e :: es) X.env)) (backToKw pos (keywordEach [] X.env))) := by rfl) :
    PE X (.Call (.Attribute o m apos) (e :: es) [] pos) (tSMeth C sp E ta t) := by
  refine ⟨fun pins s σ H Q I h => ?_⟩
  refine PySem.W.methodCall_KW (pl := pl) (thn (he.run pins s σ H _ I h) fun u s1 ⟨x, H1, I1, rx, ex, q⟩ => ?_) ht
  subst ex
  obtain rfl : u = Value.ref C := rx
  refine getsm_ok I1 r c fun s2 I2 => ?_
  exact PySem.W.callWith_K (h₀ := X.base) I2.ok.mod.kin c.kp (thn (ha.run pos pins s2 σ H1 _ I2 q) fun us s3 ⟨vs, H2, I3, rv, q2⟩ => ⟨I3.kIn, wpAny_call (run_fnR F hr hx I3 rv q2)⟩) hst hpl
theorem pe_smeth0 (he : PE X o ta) (r : CRead X.K C mc) (c : SMet X.K C mc m p f) (F : FnR X.prog X.w X.K X.mg X.base CX k f sp) (hr : Room k X.A) (hx : Passes CX X E)
    (ht : eval (.Call (.Attribute o m apos) [] [] pos) X.env = (do
      let ov ← eval o X.env
      standAt apos.atName
      let (f, first) ← holding [ov] (getMethod ov m pl)
      callWith pos f first (backTo pos (starEach [] X.env)) (backToKw pos (keywordEach [] X.env))) := by rfl) :
    PE X (.Call (.Attribute o m apos) [] [] pos) (tSMeth C sp E ta tNil) := by
  refine ⟨fun pins s σ H Q I h => ?_⟩
  refine PySem.W.methodCall_KW (pl := pl) (thn (he.run pins s σ H _ I h) fun u s1 ⟨x, H1, I1, rx, ex, q⟩ => ?_) ht
  subst ex
  obtain rfl : u = Value.ref C := rx
  refine getsm_ok I1 r c fun s2 I2 => ?_
  exact PySem.W.callWith_K0 I2.kIn c.kp (wpAny_call (run_fnR (us := []) F hr hx I2 .nil q))
/-- for x in e, e a list or a tuple -/
def iSeq (K : PySem.W.Frag) (te : TE) : TI := fun σ H R => iList K te σ H R ∨ iTup K te σ H R
theorem pi_seq {tg e : Expr} {te : TE} (he : PE X e te) : PI X tg e (iSeq X.K te) := by
  refine ⟨fun pins s σ H R I h => ?_⟩
  rcases h with h | h
  · exact (pi_list he).run pins s σ H R I h
  · exact (pi_tup he).run pins s σ H R I h
def rAllQ (K : PySem.W.Frag) : List V → Hp → VK → Prop := fun vs H Q => ∃ (a : Addr) (bs : List Bool), vs = [V.ref a] ∧ SqL K H a (bs.map V.bl) ∧ Q (.bl (bs.all id)) H
theorem c_allQ (hc : X.calm = true) : CallR X (.builtin "all") (rAllQ X.K) := cr_all hc
def rInQ (K : PySem.W.Frag) (neg : Bool) : R2 := fun x y H Q => ∃ p xs, y = .ref p ∧ (SqL K H p xs ∨ SqT K H p xs) ∧ flatV x = true ∧ xs.all flatV = true ∧ Q (.bl (if neg then !inV x xs else inV x xs)) H
theorem c_inQ : OpR X (compareOp .In) (rInQ X.K false) := op_in_seq
theorem c_notInQ : OpR X (compareOp .NotIn) (rInQ X.K true) := op_notIn_seq
end
end L2
namespace AW
open PySem PySem.Spec PyProof.Rows L2 ClX
section
variable {c : Cw} {kn : Hp} {n : Nat} {σ : L2.St} {Q : V → Hp → Nat → Prop} {K : PySem.W.Frag} {E : XK} {EA : EAK} {B : List V → Hp → AK → AXK → Prop} {C : Addr} {R : It → Hp → Nat → Prop}
theorem r_boolO {a dx : Addr} {fs : List (Str × V)} (hm : MonoX B) (ha : kn a = some (.ins C dx fs)) (h : B [.ref a] kn (fun v k => ∃ b, v = .bl b ∧ Q (.bl b) k n) (fun _ _ _ => False)) : W c (rBoolO C (liftX B) [.ref a]) kn n Q :=
  fun H g Q' q => ⟨a, dx, fs, rfl, g.ex _ _ ha, sp_call (EA := fun _ _ _ _ => False) (Q := fun v k n => ∃ b, v = .bl b ∧ Q (.bl b) k n) hm err_no h H g _ fun v kn1 n1 H1 ⟨b, e, hq⟩ g1 => ⟨b, e, q _ _ _ _ hq g1⟩⟩
theorem w_smeth {ta : TE} {t : TA} (hm : MonoX B) (hE : ErrOk c EA E) (h : W c (ta σ) kn n fun x kn1 n1 => x = .ref C ∧ W c (t σ) kn1 n1 fun vs kn2 n2 => B vs kn2 (fun v k => Q v k n2) (fun cls d k => EA cls d k n2)) : W c (tSMeth C (liftX B) E ta t σ) kn n Q :=
  fun H g Q' q => h H g _ fun x kn1 n1 H1 ⟨e, h1⟩ g1 => ⟨e, h1 H1 g1 _ fun vs kn2 n2 H2 h2 g2 => sp_call hm hE h2 H2 g2 Q' q⟩
/-- a static method with *rest -/
def spStar (m : Nat) (B : List V → Hp → AK → AXK → Prop) : Sp := fun vs H Q E => ∃ ws rest, vs = ws ++ rest ∧ ws.length = m ∧ rest.length ≤ sizeLine ∧ ∀ p, H p = Option.none → liftX B (ws ++ [V.ref p]) (upd H p (.tup rest)) Q E
theorem w_smethS {ta : TE} {t : TA} {m : Nat} (hm : MonoX B) (hE : ErrOk c EA E) (h : W c (ta σ) kn n fun x kn1 n1 => x = .ref C ∧ W c (t σ) kn1 n1 fun vs kn2 n2 => ∃ ws rest, vs = ws ++ rest ∧ ws.length = m ∧ rest.length ≤ 1000 ∧
    ∀ p, kn2 p = none → B (ws ++ [.ref p]) (upd kn2 p (.tup rest)) (fun v k => Q v k n2) (fun cls d k => EA cls d k n2)) : W c (tSMeth C (spStar m B) E ta t σ) kn n Q :=
  fun H g Q' q => h H g _ fun x kn1 n1 H1 ⟨e, h1⟩ g1 => ⟨e, h1 H1 g1 _ fun vs kn2 n2 H2 ⟨ws, rest, e1, e2, e3, h2⟩ g2 => ⟨ws, rest, e1, e2, Nat.le_trans e3 (by rw [sizeLine_eq]; decide), fun p hp => sp_call hm hE (h2 p (g2.free hp)) _ (g2.new hp) Q' q⟩⟩
theorem i_seqV {i : Nat} {a : Addr} {xs : List V} (hv : σ[i]? = some (some (.ref a))) (h : (kn a = some (.lst xs) ∧ R (Itl K a) kn n) ∨ (kn a = some (.tup xs) ∧ R (Itt K a) kn n)) : WI c (iSeq K (tVar i) σ) kn n R := by
  intro H g R' q
  rcases h with ⟨ha, h⟩ | ⟨ha, h⟩
  · exact .inl (i_list (w_var hv ⟨a, xs, rfl, ha, h⟩) H g R' q)
  · exact .inr (i_tup (w_var hv ⟨a, xs, rfl, ha, h⟩) H g R' q)
theorem r_isiT {x : V} {tp : Addr} {cs : List V} {t : Value} {us : List Value} {b : Bool} (h : kn tp = some (.tup cs)) (p : Paired ClsV cs us) (ty : TyX K kn x t) (e : PySem.W.kitAny K t us = some b) (q : Q (.bl b) kn n) : W c (rIsiT K [x, .ref tp]) kn n Q :=
  fun H g _ f => ⟨x, tp, cs, t, us, b, rfl, g.ex _ _ h, p, tyx_ext g.ex ty, e, f _ kn n H q g⟩
theorem r_allQ {a : Addr} {bs : List Bool} (h : kn a = some (.lst (bs.map V.bl))) (q : Q (.bl (bs.all id)) kn n) : W c (rAllQ K [.ref a]) kn n Q := fun H g _ k => ⟨a, bs, rfl, sql (g.ex _ _ h), k _ kn n H q g⟩
theorem r_inQ {x : V} {p : Addr} {xs : List V} {neg : Bool} (h : kn p = some (.lst xs) ∨ kn p = some (.tup xs)) (h1 : flatV x = true) (h2 : xs.all flatV = true) (q : Q (.bl (if neg then !inV x xs else inV x xs)) kn n) : W c (rInQ K neg x (.ref p)) kn n Q :=
  fun H g _ k => ⟨p, xs, rfl, h.imp (fun z => sql (g.ex _ _ z)) (fun z => sqt (g.ex _ _ z)), h1, h2, k _ kn n H q g⟩
end
end AW

/-! The pen: what it draws is not told, but its bounds. -/
namespace AW
open PySem PySem.Spec PyProof.Rows L2 LamX
/-- the pen: a list of the cells' list, the spot, the number that is left over -/
structure PenAt (H : Hp) (p a : Addr) (ns : List Int) (n : Nat) : Prop where
  pen : ∃ i g : Int, H p = some (.lst [.ref a, .int i, .int g]) ∧ 0 ≤ i ∧ i ≤ n ∧ 0 ≤ g
  cells : H a = some (.lst (ns.map V.int))
  pa : p ≠ a
theorem PenAt.mono {H : Hp} {p a : Addr} {ns : List Int} {n m : Nat} (h : PenAt H p a ns n) (e : n ≤ m) : PenAt H p a ns m := by
  obtain ⟨⟨i, g, h1, h2, h3, h4⟩, h5, h6⟩ := h
  exact ⟨⟨i, g, h1, h2, by omega, h4⟩, h5, h6⟩
/-- _law_draw -/
def spDraw : Sp := fun vs H Q _ => ∃ (p a : Addr) (ns : List Int) (n : Nat) (many : Int), vs = [.ref p, .int many] ∧ PenAt H p a ns n ∧ n < 1000000 ∧ 0 < many ∧ many < 1180591620717411303424 ∧
  ∀ (k : Int) (H' : Hp), 0 ≤ k → k < many → PenAt H' p a ns (n + 1) → (∀ x o, x ≠ p → H x = some o → H' x = some o) → Q (.int k) H'
theorem nil_eqv (ns : List Int) : PyData.eqv (.list (ns.map PyData.int)) (.list []) = ns.isEmpty := by
  cases ns <;> simp [PyData.eqv, PyData.eqvAll]
theorem dp_ints {K : PySem.W.Frag} {H : Hp} : ∀ ns : List Int, DpAll K H (ns.map V.int) (ns.map PyData.int)
  | [] => .nil
  | n :: r => .cons (.int n) (dp_ints r)
theorem mul_bd {a b A B : Int} (h1 : 0 ≤ a) (h2 : a ≤ A) (h3 : 0 ≤ b) (h4 : b ≤ B) : 0 ≤ a * b ∧ a * b ≤ A * B :=
  ⟨Int.mul_nonneg h1 h3, Int.mul_le_mul h2 h4 h3 (Int.le_trans h1 h2)⟩
theorem at_mod (ns : List Int) (i : Int) (h : 0 < ns.length) : ∃ z, atI (ns.map V.int) (i % ((ns.map V.int).length : Int)) = some (.int z) := by
  rw [List.length_map]
  have h1 : 0 ≤ i % (ns.length : Int) := Int.emod_nonneg _ (by omega)
  have h2 : i % (ns.length : Int) < ns.length := Int.emod_lt_of_pos _ (by omega)
  obtain ⟨j, hj⟩ : ∃ j : Nat, i % (ns.length : Int) = j := ⟨(i % (ns.length : Int)).toNat, by omega⟩
  have hj2 : j < ns.length := by omega
  rw [hj]
  refine ⟨ns[j], atI_nat ?_⟩
  rw [List.getElem?_map, List.getElem?_eq_getElem hj2]
  rfl
theorem lay_ints : ∀ ns : List Int, PyData.canLayAll0 (ns.map PyData.int) = true
  | [] => by simp [PyData.canLayAll0]
  | n :: r => by simp only [List.map_cons, PyData.canLayAll0, PyData.canLay0, Bool.true_and]; exact lay_ints r
theorem deep_ints : ∀ ns : List Int, PyData.depthAll (ns.map PyData.int) = 0
  | [] => by simp [PyData.depthAll]
  | n :: r => by simp only [List.map_cons, PyData.depthAll, PyData.depth]; rw [deep_ints r]; rfl
theorem shaped_ints (ns : List Int) : SeqAt.shaped (.list (ns.map PyData.int)) = true := by
  unfold SeqAt.shaped
  rw [show PyData.canLay0 (.list (ns.map PyData.int)) = true by simp only [PyData.canLay0]; exact lay_ints ns, show PyData.depth (.list (ns.map PyData.int)) = 1 by simp only [PyData.depth]; rw [deep_ints ns]]
  rfl
theorem weigh_int {i : Int} (h : i.natAbs < 10 ^ 12) : PyData.weight (.int i) ≤ 41 := by
  simp only [PyData.weight]
  split
  · omega
  · rename_i z
    have z0 : i.natAbs ≠ 0 := fun e => z (by rw [beq_iff_eq]; omega)
    have a : i.natAbs < 2 ^ 40 := by omega
    have := (Nat.log2_lt z0).mpr a
    omega
theorem weigh_ints : ∀ ns : List Int, (∀ n ∈ ns, n.natAbs < 10 ^ 12) → PyData.weightAll (ns.map PyData.int) ≤ 42 * ns.length
  | [], _ => by simp [PyData.weightAll]
  | n :: r, h => by
    have h1 := weigh_int (h n List.mem_cons_self)
    have h2 := weigh_ints r fun m hm => h m (List.mem_cons_of_mem _ hm)
    simp only [List.map_cons, PyData.weightAll, List.length_cons]
    omega
theorem lay0_ints {ns : List Int} (h : ∀ n ∈ ns, n.natAbs < 10 ^ 12) (l : ns.length ≤ 1000) : PyData.layable0 (.list (ns.map PyData.int)) = true := by
  have h1 := weigh_ints ns h
  have h2 : PyData.weight (.list (ns.map PyData.int)) ≤ 2 ^ 20 := by simp only [PyData.weight]; omega
  unfold PyData.layable0
  rw [show PyData.canLay0 (.list (ns.map PyData.int)) = true by simp only [PyData.canLay0]; exact lay_ints ns, show PyData.depth (.list (ns.map PyData.int)) = 1 by simp only [PyData.depth]; rw [deep_ints ns], decide_eq_true h2]
  rfl
theorem show_ints : ∀ ns : List Int, (∀ n ∈ ns, n.natAbs < 10 ^ 12) → PyData.showableAll (ns.map PyData.int) = true
  | [], _ => by simp [PyData.showableAll]
  | n :: r, h => by
    have h0 : n.natAbs.log2 < 1920 := by
      have := h n List.mem_cons_self
      by_cases z : n.natAbs = 0
      · rw [z]; decide
      · exact Nat.lt_trans ((Nat.log2_lt z).mpr (show n.natAbs < 2 ^ 40 by omega)) (by decide)
    simp only [List.map_cons, PyData.showableAll, PyData.showable, decide_eq_true h0, Bool.true_and]
    exact show_ints r fun m hm => h m (List.mem_cons_of_mem _ hm)
theorem nodict_ints : ∀ ns : List Int, PyData.hasDictAll (ns.map PyData.int) = false
  | [] => by simp [PyData.hasDictAll]
  | n :: r => by simp only [List.map_cons, PyData.hasDictAll, PyData.hasDict, Bool.false_or]; exact nodict_ints r
theorem r_reprInts {K : PySem.W.Frag} {c : Cw} {kn : Hp} {n : Nat} {Q : V → Hp → Nat → Prop} {a : Addr} {vs : List V} (ns : List Int) (e : vs = ns.map V.int) (h : kn a = some (.lst vs)) (hb : ∀ n ∈ ns, n.natAbs < 10 ^ 12) (hl : ns.length ≤ 1000) (q : Q (.str (PyData.shown (.list (ns.map PyData.int)))) kn n) : W c (rRepr K [.ref a]) kn n Q := by
  subst e
  refine r_repr (.lst (sql h) (dp_ints ns)) ?_ ?_ ?_ ?_ q
  · simp only [PyData.showable]; exact show_ints ns hb
  · simp only [PyData.hasDict]; exact nodict_ints ns
  · simp only [PyData.depth]; rw [deep_ints ns]; decide
  · exact PyData.shown_fits_of_layable0 (B := 13) (by decide) (by decide) (lay0_ints hb hl) (by simp only [PyData.intsShort]; exact PyData.intsShortAll_ints ns hb)
theorem r_cat {c : Cw} {kn : Hp} {n : Nat} {Q : V → Hp → Nat → Prop} {l b : Addr} {xs zs : List V} (h1 : kn l = some (.lst xs)) (h2 : kn b = some (.lst zs)) (hz : xs.length + zs.length ≤ 1000) (q : ∀ p, kn p = none → Q (.ref p) (upd kn p (.lst (xs ++ zs))) n) : W c (rCat (.ref l) (.ref b)) kn n Q :=
  fun H g _ k => ⟨l, b, xs, zs, rfl, rfl, g.ex _ _ h1, g.ex _ _ h2, Nat.le_trans hz (by rw [sizeLine_eq]; decide), fun p hp => k _ _ _ _ (q p (g.free hp)) (g.new hp)⟩
theorem w_append {K : PySem.W.Frag} {c : Cw} {kn : Hp} {n i : Nat} {σ : L2.St} {Q : V → Hp → Nat → Prop} {l : Addr} {xs0 : List V} {t : TA} (hv : σ[i]? = some (some (.ref l))) (h0 : kn l = some (.lst xs0))
    (h : W c (t σ) kn n fun vs kn1 n1 => ∃ y xs, vs = [y] ∧ kn1 l = some (.lst xs) ∧ xs.length ≤ 1000 ∧ Q .non (upd kn1 l (.lst (xs ++ [y]))) n1) : W c (tBM K "list" rAppend (tVar i) t σ) kn n Q :=
  fun H g Q' q => ⟨.ref l, hv, .inl ⟨rfl, _, sql (g.ex _ _ h0)⟩, h H g _ fun vs kn1 n1 H1 ⟨y, xs, e, e1, hl, hq⟩ g1 => ⟨l, xs, y, rfl, e, g1.ex _ _ e1, Nat.lt_of_le_of_lt hl (by rw [sizeLine_eq]; decide), q _ _ _ _ hq (g1.put e1 rfl)⟩⟩
theorem Good.grow {c : Cw} {kn H H' : Hp} {n : Nat} {q : Addr} {o : HO} (g : Good c kn n H) (e : Ext H H') (h0 : H q = none) (h1 : H' q = some o) (ht : isTbl o = false := by rfl) : Good c (upd kn q o) n H' := by
  refine ⟨fun x u hx => ?_, c.step n kn H H' g.inv g.res fun x u hx _ => e x u hx, fun x r => ?_, nt_upd g.nt ht⟩
  · by_cases z : x = q
    · rw [z, upd_same] at hx; cases hx; rw [z]; exact h1
    · rw [upd_ne z] at hx; exact e x u (g.ex x u hx)
  · rw [upd_ne (fun z => c.live n H x g.inv r (by rw [z]; exact h0))]
    exact g.res x r
/-- the pen and its cells alone are known -/
def penKn (H : Hp) (p a : Addr) : Hp := fun x => if x = p ∨ x = a then H x else none
theorem TabS.keep {H H' : Hp} {P : Addr} {q : Str} (e : ∀ b o, H b = some o → isMut o = false → H' b = some o) (h : TabS H P q) : TabS H' P q := by
  obtain ⟨ps, h1, h2, h3⟩ := h
  refine ⟨ps, e _ _ h1 rfl, h2, fun pos cv hc => ?_⟩
  obtain ⟨c, e1, e2⟩ := h3 pos cv hc
  exact ⟨c, e1, e _ _ e2 rfl⟩
theorem Tabs.keep {T : List (Addr × Str)} {H H' : Hp} (e : ∀ b o, H b = some o → isMut o = false → H' b = some o) (h : Tabs T H) : Tabs T H' := fun p hp => TabS.keep e (h p hp)
def penC (p a : Addr) (ns : List Int) (T : List (Addr × Str)) : Cw where
  inv n H := PenAt H p a ns n ∧ Tabs T H
  res x := x = p ∨ x = a ∨ ∃ t ∈ T, x = t.1
  live n H x h r := by
    obtain ⟨⟨⟨i, g, h1, _⟩, h2, _⟩, hT⟩ := h
    rcases r with rfl | rfl | ⟨t, ht, rfl⟩
    · rw [h1]; exact fun z => nomatch z
    · rw [h2]; exact fun z => nomatch z
    · obtain ⟨ps, h3, _⟩ := hT t ht
      rw [h3]; exact fun z => nomatch z
  step n kn H H' h r k := by
    obtain ⟨⟨⟨i, g, h1, h1'⟩, h2, h3⟩, hT⟩ := h
    exact ⟨⟨⟨i, g, k _ _ h1 (.inl (r _ (.inl rfl))), h1'⟩, k _ _ h2 (.inl (r _ (.inr (.inl rfl)))), h3⟩, Tabs.keep (fun b o e m => k b o e (.inr m)) hT⟩
  up n m H h l := ⟨h.1.mono l, h.2⟩
section
variable {p a : Addr} {ns : List Int} {T : List (Addr × Str)} {kn : Hp} {n : Nat} {σ : L2.St} {Q : V → Hp → Nat → Prop} {E : XK} {EA : EAK} {B : List V → Hp → AK → AXK → Prop} {t : TA}
theorem w_draw (h : W (penC p a ns T) (t σ) kn n fun vs kn1 n1 => ∃ many, vs = [.ref p, .int many] ∧ n1 < 1000000 ∧ 0 < many ∧ many < 1180591620717411303424 ∧ ∀ k : Int, 0 ≤ k → k < many → Q (.int k) kn1 (n1 + 1)) : W (penC p a ns T) (tCall spDraw [] E t σ) kn n Q :=
  fun H g Q' q => h H g _ fun vs kn1 n1 H1 h1 g1 => by
    obtain ⟨many, rfl, b1, b2, b3, h2⟩ := h1
    refine ⟨p, a, ns, n1, many, rfl, g1.inv.1, b1, b2, b3, fun k H' k0 k1 hp hk => q _ _ _ _ (h2 k k0 k1) ⟨fun x o e => hk x o (fun z => ?_) (g1.ex x o e), ⟨hp, Tabs.keep (fun b o e m => hk b o (fun z => ?_) e) g1.inv.2⟩, g1.res, g1.nt⟩⟩
    · have := g1.res x (.inl z)
      rw [e] at this
      cases this
    · obtain ⟨i, g, hP, _⟩ := g1.inv.1.pen
      rw [z, hP] at e
      cases e
      cases m
/-- a promise of a def that draws m times at most -/
def liftP (T : List (Addr × Str)) (m : Nat) (B : List V → Hp → AK → AXK → Prop) : Sp := fun vs H Q E => ∃ p a ns n kn ws, vs = .ref p :: ws ∧ Good (penC p a ns T) kn n H ∧ n + m < 1000000 ∧
  B ws kn (fun v k => ∀ H', Good (penC p a ns T) k (n + m) H' → Q v H') (fun cls d k => ∀ H', Good (penC p a ns T) k (n + m) H' → E cls d H')
theorem w_callP {m : Nat} (hm : MonoX B) (hE : ErrOk (penC p a ns T) EA E) (h : W (penC p a ns T) (t σ) kn n fun vs kn1 n1 => ∃ ws, vs = .ref p :: ws ∧ n1 + m < 1000000 ∧ B ws kn1 (fun v k => Q v k (n1 + m)) (fun cls d k => EA cls d k (n1 + m))) : W (penC p a ns T) (tCall (liftP T m B) [] E t σ) kn n Q :=
  fun H g Q' q => h H g _ fun vs kn1 n1 H1 h1 g1 => by
    obtain ⟨ws, rfl, hb, h2⟩ := h1
    refine ⟨p, a, ns, n1, kn1, ws, by simp, g1, hb, hm _ _ _ _ _ _ (fun v k hq H' g' => q _ _ _ _ hq g') (fun cls d k hq H' g' => hE _ _ _ _ _ hq g') h2⟩
theorem takes_len {X : Cx} {W : WX} {m : Nat} (tk : L2.Takes X W) (h : X.N.length = m := by rfl) : L2.Takes X (fun cls d σ H => σ.length = m → W cls d σ H) :=
  fun u s' ⟨a, B, sI, pins, σ, H, cls, d, e, I, nb, up, sky, na, os, ag, w⟩ => tk u s' ⟨a, B, sI, pins, σ, H, cls, d, e, I, nb, up, sky, na, os, ag, w (I.len.trans h)⟩
/-- the abstract meaning of def heard(ask): [what was found], or (.., the error's field) -/
def EAh (B : Addr) (word : Str) (Q : V → Hp → Nat → Prop) : EAK := fun cls d kn n => cls = .ref B ∧ ∃ dd fs y, d = some dd ∧ kn dd = some (.xd fs) ∧ fs.lookup ("part" : Str) = some y ∧
  ∀ q kn2, Ext kn kn2 → kn q = none → kn2 q = some (.tup [.str word, y]) → Q (.ref q) kn2 n
def TTh (B : Addr) (word : Str) : (XK → Hp → VK → Prop) → Hp → VK → Prop := fun tl H Q => ∃ (c : Cw) (kn : Hp) (n : Nat) (QA : V → Hp → Nat → Prop), Good c kn n H ∧ (∀ v kn' n' H', QA v kn' n' → Good c kn' n' H' → Q v H') ∧
  ∀ E, ErrOk c (EAh B word QA) E → W c (fun H' Q' => tl E H' Q') kn n fun v kn1 n1 => ∀ q, kn1 q = none → QA (.ref q) (upd kn1 q (.lst [v])) n1
theorem good_lam {H H1 : Hp} (g : Good (penC p a ns T) kn n H) (e : ExtN H H1) (hT : Tabs T H1) : Good (penC p a ns T) kn n H1 := by
  obtain ⟨⟨⟨i, k, h1, h1'⟩, h2, h3⟩, _⟩ := g.inv
  refine ⟨fun x o hx => e x o (g.ex x o hx) (fun ps z => ?_), ⟨⟨⟨i, k, e _ _ h1 (fun _ z => nomatch z), h1'⟩, e _ _ h2 (fun _ z => nomatch z), h3⟩, hT⟩, g.res, g.nt⟩
  have := g.nt x o hx
  rw [z] at this
  cases this
theorem w_lam {B : Addr} {word : Str} {tt : XK → TE}
    (h : ∀ E, ErrOk (penC p a ns T) (EAh B word Q) E → W (penC p a ns T) (tt E σ) kn n fun v kn1 n1 => ∀ q, kn1 q = none → Q (.ref q) (upd kn1 q (.lst [v])) n1) : W (penC p a ns T) (tLam T (TTh B word) tt σ) kn n Q :=
  fun H g Q' q => ⟨g.inv.2, fun H1 e hT => ⟨penC p a ns T, kn, n, Q, good_lam g e hT, q, h⟩⟩
theorem fin_at {c : Cw} {kn : Hp} {n m : Nat} {P : Hp → Prop} (le : n ≤ m) (f : ∀ H', Good c kn m H' → P H') : ∀ H', Good c kn n H' → P H' := fun H' g => f H' (g.up le)
end
end AW

/-! raise .. from None in a handler; an error with two fields; a classmethod. -/
namespace L2
open PySem PySem.Spec PyProof.Rows
theorem Fun.okH {P : Program} {w : World} {K : PySem.W.Frag} {mg : Str → Option Value} {base : Heap} {x qual : Str} {st : Stmt} {f : Addr} {fd : FuncData} {N ps : List Str} {k : Nat} {sp : Sp} (F : Fun K x qual st f fd) (S : FnScope N ps (defScope st)) (len : ∀ vs H Q E, sp vs H Q E → vs.length = ps.length)
    (hbody : ∀ (cdv : Value) (A : Around) (outer : List Env) (s : Shared) (H : Hp) (vs : List V) (Q : VK) (E : XK) (p : Addr × Obj), L2H.RoomH k (A.deeper (envOfC qual (defScope st) s.heap.objs.size f cdv)) → sp vs H Q E →
      ∃ t, PSs (L2H.cxH CX0 P w K mg base N qual (defScope st) f cdv A outer s H E p) (defBody st) t ∧ t { nx := fun _ H' => Q .non H', rt := Q } (start N vs) H) : L2H.FnH P w K mg base CX0 (k + 1) f fd ps sp := by
  obtain ⟨oc, od, kV, doc, pm, an, cdv, ct, osl, rfl, lk, hcd⟩ := F.ex
  exact L2H.fn_ofH lk hcd S len fun A outer s H vs Q E p hp hr hsp => hbody cdv A outer s H vs Q E p hr hsp
/-- an error class whose __init__ sets two fields -/
def spX2 (K : PySem.W.Frag) (f g : Str) : Sp := fun vs H Q _ => ∃ (a C : Addr) (y z : V), vs = [.ref a, y, z] ∧ OexC K C ∧ PySem.W.findIn K (.ref C) f = some none ∧ PySem.W.findIn K (.ref C) g = some none ∧ H a = some (exo a C none) ∧
  ∀ dx, H dx = none → dx ≠ a → Q .non (upd (upd (upd H dx (exd dx [(f, y)])) a (exo a C (some dx))) dx (exd dx [(g, z), (f, y)]))
theorem x2_end {H : Hp} {a d : Addr} {o1 o2 o3 o4 o5 : HO} (ha : H a = none) (hd : d ≠ a) : upd (del (upd (upd (upd (upd H a o1) d o2) a o3) d o5) a) d o4 = upd H d o4 := by
  funext x
  by_cases h1 : x = d
  · rw [h1, upd_same, upd_same]
  · rw [upd_ne h1, upd_ne h1]
    by_cases h2 : x = a
    · rw [h2, del_same, ha]
    · rw [del_ne h2, upd_ne h1, upd_ne h2, upd_ne h1, upd_ne h2]
end L2
namespace AW
open PySem PySem.Spec PyProof.Rows L2
section
variable {c : Cw} {kn : Hp} {n : Nat} {σ : L2.St} {K : PySem.W.Frag} {D : AE} {E : XK} {EA : EAK}
theorem s_raise2 {C : Addr} {f g : Str} {ta : TA} (oc : OexC K C) (hf : PySem.W.findIn K (.ref C) f = some none) (hg : PySem.W.findIn K (.ref C) g = some none) (hE : ErrOk c EA E)
    (h : W c (ta σ) kn n fun vs kn1 n1 => ∃ y z, vs = [y, z] ∧ ∀ d, kn1 d = none → EA (.ref C) (some d) (upd kn1 d (.xd [(g, z), (f, y)])) n1) :
    WS c (fun _ σ H => tMkO C (spX2 K f g) [] ta σ H fun cls d H' => E cls d H') D σ kn n :=
  fun H g0 D' fit => h H g0 _ fun vs kn1 n1 H1 ⟨y, z, e, h1⟩ g1 => by
    subst e
    refine ⟨Nat.le_add_left 2 998, fun a ha => ⟨a, C, y, z, rfl, oc, hf, hg, upd_same, fun d hd hda => ⟨rfl, d, [(g, z), (f, y)], ?_, upd_same, ?_, ?_⟩⟩⟩
    · rw [upd_ne (Ne.symm hda), upd_same]
    · rw [upd_ne hda] at hd
      exact hd
    · rw [upd_ne hda] at hd
      rw [x2_end ha hda]
      exact hE _ _ _ _ _ (h1 d (g1.free hd)) (g1.new hd)
/-- try .. except C: suite (that ends in another error) -/
theorem s_tryO {cv : Value} {tb : WX → TS} {ts : Addr → Value → Option Addr → TS} {Wout : WX}
    (h : ∀ H (D' : Ends), Good c kn n H → Fits c D D' → tb (wOnly K cv ts Wout D') D' σ H) : WS c (fun D' σ H => tb (wOnly K cv ts Wout D') D' σ H) D σ kn n :=
  fun H g D' fit => h H D' g fit
end
end AW
namespace L2
open PySem PySem.Spec PyProof.Rows ClX
section
variable {X : Cx} {CX : CXT} {k : Nat} {f C p : Addr} {mc : Value} {m : Str} {fd : FuncData} {ps : List Str} {B : List V → Hp → AW.AK → AW.AXK → Prop} {E : XK}
end
end L2

/-! Texts of integers: what is read back is what was written. -/
namespace L2
namespace Tx1
open PySem PySem.NumText TL
/-- the text of an integer -/
abbrev dS (i : Int) : Str := Str.ofString (toString i)
theorem dS_nat (n : Nat) : tl (dS n) = numL n := tl_num n
theorem dS_neg {n : Nat} (h : 0 < n) : tl (dS (-(n : Int))) = 45 :: numL n := by
  obtain ⟨m, rfl⟩ : ∃ m, n = m + 1 := ⟨n - 1, by omega⟩
  have e : (toString (-((m + 1 : Nat) : Int))) = "-" ++ toString (((m + 1 : Nat) : Int)) := by
    have : (-((m + 1 : Nat) : Int)) = Int.negSucc m := by omega
    rw [this]
    rfl
  show tl (Str.ofString (toString (-((m + 1 : Nat) : Int)))) = _
  rw [e, tl_ofString, String.toList_append, List.map_append, ← tl_ofString (toString _)]
  rw [tl_num]
  rfl
theorem dS_cases (i : Int) : (∃ n : Nat, i = n ∧ tl (dS i) = numL n) ∨ (∃ n : Nat, 0 < n ∧ i = -(n : Int) ∧ tl (dS i) = 45 :: numL n) := by
  rcases Int.lt_or_le i 0 with h | h
  · refine .inr ⟨i.natAbs, by omega, by omega, ?_⟩
    have e : i = -((i.natAbs : Nat) : Int) := by omega
    have := dS_neg (n := i.natAbs) (by omega)
    rw [← e] at this
    exact this
  · refine .inl ⟨i.natAbs, by omega, ?_⟩
    have e : i = ((i.natAbs : Nat) : Int) := by omega
    have := dS_nat i.natAbs
    rw [← e] at this
    exact this
theorem numL_no45 (n : Nat) : ¬ 45 ∈ numL n := numL_free (.inl (by decide))
theorem dS_free {c : Nat} (h : c ≠ 45) (h2 : c < 48 ∨ 57 < c) (i : Int) : ¬ c ∈ tl (dS i) := by
  rcases dS_cases i with ⟨n, _, e⟩ | ⟨n, _, _, e⟩ <;> rw [e]
  · exact numL_free h2
  · intro hm
    rcases List.mem_cons.1 hm with hm | hm
    · exact h hm
    · exact numL_free h2 hm
theorem ext_str {a b : Str} (h : tl a = tl b) : a = b := by
  have := congrArg (fun l => ({ cps := l.toArray } : Str)) h
  exact (mk_tl a).symm.trans (this.trans (mk_tl b))
theorem dS_inj {i j : Int} (h : dS i = dS j) : i = j := by
  have h := congrArg tl h
  rcases dS_cases i with ⟨n, rfl, e⟩ | ⟨n, hn, rfl, e⟩ <;> rcases dS_cases j with ⟨m, rfl, e2⟩ | ⟨m, hm, rfl, e2⟩ <;> rw [e, e2] at h
  · rw [numL_inj h]
  · exact absurd (h ▸ List.mem_cons_self) (numL_no45 n)
  · exact absurd (h.symm ▸ List.mem_cons_self) (numL_no45 m)
  · rw [numL_inj (List.cons.inj h).2]
/-- the figures of a text without leading zeros -/
def canon (l : List Nat) : List Nat := match l.dropWhile (· == 48) with
  | [] => [48]
  | c :: r => c :: r
theorem toNat_ofNat {c : Nat} (h : 48 ≤ c ∧ c ≤ 57) : (Char.ofNat c).toNat = c := by
  obtain ⟨h1, h2⟩ := h
  have : ∀ c : Nat, c < 58 → (Char.ofNat c).toNat = c := by decide
  exact this c (by omega)
theorem mem_dropWhile {p : Nat → Bool} {c : Nat} : ∀ {l : List Nat}, c ∈ l.dropWhile p → c ∈ l
  | [], h => h
  | a :: l, h => by
    rw [List.dropWhile_cons] at h
    split at h
    · exact List.mem_cons_of_mem _ (mem_dropWhile h)
    · exact h
theorem numL_val_canon {l : List Nat} (h : AllDigits l) : numL (digitsVal l) = canon l := by
  unfold numL canon
  rw [toDigits_all l h]
  have hd : ∀ c ∈ l.dropWhile (· == 48), 48 ≤ c ∧ c ≤ 57 := fun c hc => h c (mem_dropWhile hc)
  revert hd
  generalize l.dropWhile (· == 48) = d
  intro hd
  cases d with
  | nil => rfl
  | cons c r =>
    show List.map Char.toNat (List.map Char.ofNat (c :: r)) = c :: r
    rw [List.map_map]
    exact (List.map_congr_left (fun a ha => toNat_ofNat (hd a ha))).trans (List.map_id _)
theorem len_dropWhile_le {p : Nat → Bool} : ∀ l : List Nat, (l.dropWhile p).length ≤ l.length
  | [] => Nat.le_refl _
  | a :: l => by
    rw [List.dropWhile_cons]
    split
    · have := len_dropWhile_le (p := p) l
      simp only [List.length_cons]
      omega
    · exact Nat.le_refl _
theorem canon_eq {l : List Nat} (hne : l ≠ []) : canon l = l ↔ (l = [48] ∨ l.head? ≠ some 48) := by
  cases l with
  | nil => exact absurd rfl hne
  | cons a r =>
    by_cases ha : a = 48
    · subst ha
      constructor
      · intro h
        left
        unfold canon at h
        rw [List.dropWhile_cons] at h
        simp only [BEq.rfl, if_true] at h
        have hl := len_dropWhile_le (p := (· == 48)) r
        revert h
        generalize hd : r.dropWhile (· == 48) = d
        rw [hd] at hl
        intro h
        cases d with
        | nil => exact h.symm
        | cons c t =>
          exfalso
          have := congrArg List.length h
          simp only [List.length_cons] at this hl
          omega
      · rintro (h | h)
        · rw [h]; rfl
        · exact absurd rfl h
    · constructor
      · intro _
        right
        simpa using ha
      · intro _
        unfold canon
        rw [List.dropWhile_cons]
        have : (a == 48) = false := by simpa using ha
        simp [this]
theorem val_lt : ∀ (k : Nat) (l : List Nat), AllDigits l → l.length ≤ k → digitsVal l < 10 ^ k := by
  intro k
  induction k with
  | zero =>
    intro l h hl
    have : l = [] := List.length_eq_zero_iff.1 (by omega)
    subst this
    decide
  | succ k ih =>
    intro l h hl
    rcases List.eq_nil_or_concat l with rfl | ⟨r, c, rfl⟩
    · show 0 < _
      exact Nat.pos_of_ne_zero (by simp)
    · rw [List.concat_eq_append] at h hl ⊢
      have hr := ih r (fun x hx => h x (List.mem_append_left _ hx)) (by simp at hl; omega)
      have hc := h c (List.mem_append_right _ (List.mem_singleton.2 rfl))
      rw [digitsVal_snoc]
      have : 10 ^ (k + 1) = 10 ^ k * 10 := rfl
      omega
end Tx1
end L2

namespace L2
namespace Tx1
open PySem PySem.NumText TL SX
abbrev minusS : Str := S [45]
abbrev plusS : Str := S [43]
theorem subAt_hd (w : Str) (c : Nat) : (decide (0 + (S [c]).length ≤ w.length) && Builtin.Str.subAt w (S [c]) 0) = decide ((tl w).head? = some c) := by
  unfold Builtin.Str.subAt
  have e1 : (S [c]).length = 1 := rfl
  rw [e1]
  obtain ⟨⟨l⟩⟩ := w
  cases l with
  | nil => simp [tl, Str.length]
  | cons a r =>
    simp only [Str.length, tl]
    by_cases h : a = c
    · subst h
      simp [S]
    · simp [S, h]
theorem rp_tl (w : Str) : tl (Txt.removeprefix w minusS) = if (tl w).head? = some 45 then (tl w).drop 1 else tl w := by
  rw [StrLaws.removeprefix_eq, subAt_hd]
  by_cases h : (tl w).head? = some 45
  · simp only [h, decide_true, if_true]
    show List.take _ _ = _
    have e1 : minusS.length = 1 := rfl
    rw [e1]
    apply List.take_of_length_le
    simp [Str.length]
  · simp [h]
theorem dec128 : ∀ c : Nat, c < 128 → Unicode.isDecimal c = (decide (48 ≤ c) && decide (c ≤ 57)) := by decide +kernel
theorem decimal_iff {d : Str} (ha : ∀ c ∈ tl d, c < 128) : Txt.isdecimal d = true ↔ tl d ≠ [] ∧ AllDigits (tl d) := by
  unfold Txt.isdecimal
  obtain ⟨⟨l⟩⟩ := d
  simp only [tl, Str.length] at *
  constructor
  · intro h
    simp at h
    refine ⟨by intro e; subst e; simp at h, fun c hc => ?_⟩
    have := h.2 c hc
    rw [dec128 c (ha c hc)] at this
    simpa using this
  · rintro ⟨h1, h2⟩
    simp
    refine ⟨by cases l with | nil => exact absurd rfl h1 | cons => simp, fun c hc => ?_⟩
    rw [dec128 c (ha c hc)]
    simpa using h2 c hc
/-- the text w is that of the integer n, of twelve figures at most -/
def isN (w : Str) (n : Int) : Prop := w = dS n ∧ n.natAbs < 10 ^ 12
theorem isN_uni {w : Str} {n m : Int} (h : isN w n) (g : isN w m) : n = m := dS_inj (h.1.symm.trans g.1)
theorem ascii_dS (i : Int) : ∀ c ∈ tl (dS i), c < 128 := by
  intro c hc
  rcases dS_cases i with ⟨n, _, e⟩ | ⟨n, _, _, e⟩ <;> rw [e] at hc
  · have := numL_digits n c hc
    omega
  · rcases List.mem_cons.1 hc with rfl | hc
    · decide
    · have := numL_digits n c hc
      omega
theorem head_numL (n : Nat) : (numL n).head? ≠ some 45 := by
  intro h
  exact numL_no45 n (List.mem_of_head? h)
theorem rp_dS {n : Int} : tl (Txt.removeprefix (dS n) minusS) = numL n.natAbs := by
  rw [rp_tl]
  rcases dS_cases n with ⟨m, rfl, e⟩ | ⟨m, hm, rfl, e⟩ <;> rw [e]
  · rw [if_neg (head_numL m)]
    rfl
  · rw [if_pos (show (45 :: numL m).head? = some 45 from rfl)]
    show numL m = _
    congr 1
    omega
theorem rn_no {w : Str} (h : 12 < (Txt.removeprefix w minusS).length ∨ Txt.isdecimal (Txt.removeprefix w minusS) = false) (n : Int) : ¬ isN w n := by
  rintro ⟨rfl, hn⟩
  have hl : (numL n.natAbs).length ≤ 12 := numL_len (by decide) hn
  have e := @rp_dS n
  rcases h with h | h
  · have : (Txt.removeprefix (dS n) minusS).length = (tl (Txt.removeprefix (dS n) minusS)).length := (len_tl _).symm ▸ rfl
    rw [this, e] at h
    omega
  · have : Txt.isdecimal (Txt.removeprefix (dS n) minusS) = true := (decimal_iff (by rw [e]; intro c hc; have := numL_digits _ c hc; omega)).2 (by rw [e]; exact ⟨numL_ne _, numL_digits _⟩)
    rw [h] at this
    exact absurd this (by decide)
theorem lenT (w : Str) : w.length = (tl w).length := by simp [Str.length, tl]
theorem int_dS {n : Int} (hn : n.natAbs < 10 ^ 12) : intText? (dS n) = some n := by
  have hl : (numL n.natAbs).length ≤ 12 := numL_len (by decide) hn
  rcases dS_cases n with ⟨m, rfl, e⟩ | ⟨m, hm, rfl, e⟩
  · exact int_num (by have : (m : Int).natAbs = m := by omega
                      rw [this] at hl; omega)
  · have : (-(m : Int)).natAbs = m := by omega
    rw [this] at hl
    rw [intText_neg e (numL_digits m) (numL_ne m) (by rw [lenT, e]; simp only [List.length_cons]; omega), numL_val]
theorem rn_yes {w : Str} (ha : ∀ c ∈ tl w, c < 128) (hl : (Txt.removeprefix w minusS).length ≤ 12) (hd : Txt.isdecimal (Txt.removeprefix w minusS) = true) : ∃ n, intText? w = some n ∧ n.natAbs < 10 ^ 12 ∧ w.length ≤ 13 ∧ (∀ m, isN w m → m = n) := by
  have e := rp_tl w
  rw [lenT] at hl
  have hd := (decimal_iff (by
    rw [e]
    split
    · exact fun c hc => ha c (List.mem_of_mem_drop hc)
    · exact ha)).1 hd
  revert hl hd
  rw [e]
  by_cases h : (tl w).head? = some 45
  · rw [if_pos h]
    obtain ⟨r, hr⟩ : ∃ r, tl w = 45 :: r := by
      cases hw : tl w with
      | nil => rw [hw] at h; exact absurd h (by decide)
      | cons a r => rw [hw] at h; exact ⟨r, by rw [Option.some.inj h]⟩
    rw [hr]
    simp only [List.drop_succ_cons, List.drop_zero]
    rintro hl ⟨h1, h2⟩
    have hi := intText_neg (x := w) hr h2 h1 (by rw [lenT, hr]; simp only [List.length_cons]; omega)
    refine ⟨_, hi, ?_, by rw [lenT, hr]; simp only [List.length_cons]; omega, fun m hm => ?_⟩
    · have := val_lt 12 r h2 hl
      omega
    · rw [hm.1, int_dS hm.2] at hi
      exact Option.some.inj hi
  · rw [if_neg h]
    rintro hl ⟨h1, h2⟩
    have hi : intText? w = some ((digitsVal (tl w) : Nat) : Int) := intText_digits (x := w) h2 h1 (by rw [lenT]; omega)
    refine ⟨_, hi, ?_, by rw [lenT]; omega, fun m hm => ?_⟩
    · have := val_lt 12 _ h2 hl
      omega
    · have h3 := int_dS hm.2
      rw [← hm.1, hi] at h3
      exact (Option.some.inj h3).symm
/-- the text w is that of a number from 0 on of k figures at most -/
def isC (k : Nat) (w : Str) : Prop := ∃ n : Nat, n < 10 ^ k ∧ w = dS n
theorem cnt_yes {k : Nat} {w : Str} (hd : AllDigits (tl w)) (hne : tl w ≠ []) (hl : w.length ≤ k) (h : tl w = [48] ∨ (tl w).head? ≠ some 48) : isC k w := by
  refine ⟨digitsVal (tl w), val_lt k _ hd (by rw [← lenT]; exact hl), ext_str ?_⟩
  rw [dS_nat, numL_val_canon hd]
  exact ((canon_eq hne).2 h).symm
theorem cnt_no {k : Nat} {w : Str} (hk : 0 < k) (h : isC k w) : AllDigits (tl w) ∧ tl w ≠ [] ∧ w.length ≤ k ∧ (tl w = [48] ∨ (tl w).head? ≠ some 48) := by
  obtain ⟨n, hn, rfl⟩ := h
  rw [lenT, dS_nat]
  refine ⟨numL_digits n, numL_ne n, numL_len hk hn, (canon_eq (numL_ne n)).1 ?_⟩
  rw [← numL_val_canon (numL_digits n), numL_val]
/-- the law's bare text of head -/
def bareOf (h : Str) : Str := if (tl h).head? = some 45 then S ((tl h).drop 1) else h
theorem isN_bare {h : Str} : (isC 12 (bareOf h) ∧ h ≠ S [45, 48]) ↔ ∃ f, isN h f := by
  unfold bareOf
  constructor
  · rintro ⟨⟨n, hn, e⟩, h0⟩
    by_cases hh : (tl h).head? = some 45
    · rw [if_pos hh] at e
      obtain ⟨r, hr⟩ : ∃ r, tl h = 45 :: r := by
        cases hw : tl h with
        | nil => rw [hw] at hh; exact absurd hh (by decide)
        | cons a r => rw [hw] at hh; exact ⟨r, by rw [Option.some.inj hh]⟩
      rw [hr] at e
      have e2 : r = numL n := by
        have := congrArg tl e
        rw [dS_nat] at this
        exact this
      have n0 : 0 < n := by
        apply Nat.pos_of_ne_zero
        rintro rfl
        apply h0
        apply ext_str
        rw [hr, e2]
        rfl
      refine ⟨-(n : Int), ext_str ?_, by omega⟩
      rw [dS_neg n0, hr, e2]
    · rw [if_neg hh] at e
      exact ⟨n, e, by omega⟩
  · rintro ⟨f, rfl, hf⟩
    rcases dS_cases f with ⟨m, rfl, e⟩ | ⟨m, hm, rfl, e⟩
    · rw [if_neg (by rw [e]; exact head_numL m)]
      refine ⟨⟨m, by omega, rfl⟩, fun hx => ?_⟩
      have := congrArg tl hx
      rw [e] at this
      exact numL_no45 m (this ▸ List.mem_cons_self)
    · rw [if_pos (by rw [e]; rfl), e]
      refine ⟨⟨m, by omega, ext_str (by rw [dS_nat]; rfl)⟩, fun hx => ?_⟩
      have := congrArg tl hx
      rw [e] at this
      have h2 := (List.cons.inj this).2
      have : digitsVal (numL m) = digitsVal [48] := by rw [h2]
      rw [numL_val] at this
      have z : digitsVal [48] = 0 := rfl
      omega
end Tx1
end L2

namespace L2
namespace Tx1
open PySem PySem.NumText TL SX
/-- what a text of a stay tells -/
def okT (f n : Int) : Prop := f.natAbs < 10 ^ 12 ∧ 1 ≤ n ∧ n ≤ 400 ∧ f + n < 10 ^ 12
def txt (f n : Int) : Str := dS f ++ plusS ++ dS n
def isT (x : Str) : Prop := ∃ f n, okT f n ∧ x = txt f n
theorem plus_free (i : Int) : ¬ 43 ∈ tl (dS i) := dS_free (by decide) (by decide) i
theorem tl_txt (f n : Int) : tl (txt f n) = tl (dS f) ++ 43 :: tl (dS n) := by
  unfold txt
  rw [tl_append, tl_append]
  show _ ++ [43] ++ _ = _
  rw [List.append_assoc]
  rfl
theorem kind_plus (x : Str) : ¬ Builtin.Str.strKind x < Builtin.Str.strKind plusS := by
  have : Builtin.Str.strKind plusS = 1 := by decide +kernel
  rw [this]
  unfold Builtin.Str.strKind
  split
  · decide
  · split <;> decide
theorem split_txt (f n : Int) : Txt.split (txt f n) plusS = [dS f, dS n] := by
  apply map_tl_inj
  rw [split_spl _ _ (by decide) (kind_plus _), tl_txt]
  show spl [43] 0 [] _ = _
  have h := spl_part1 (s := 43) (S := []) (p := tl (dS f)) (rest := tl (dS n)) (acc := []) (plus_free f)
  simp only [List.singleton_append, List.nil_append] at h
  rw [h, spl_last1 (plus_free n)]
  rfl
theorem split_two {x a b : Str} (h : Txt.split x plusS = [a, b]) : x = a ++ plusS ++ b := by
  have := StrLaws.join_split x plusS
  rw [h, ← StrLaws.glued_eq_join] at this
  rw [← this]
  apply ext_str
  show (Builtin.Str.glued _ _).cps.toList = _
  rw [StrLaws.glued_list]
  rw [tl_append, tl_append]
  simp [StrLaws.glueT, StrLaws.glueL, tl]
theorem part_txt (f n : Int) : Txt.partition (txt f n) plusS = (dS f, plusS, dS n) := partition_app (s := 43) (S := []) rfl (plus_free f)
theorem part_cases (x : Str) : (¬ 43 ∈ tl x ∧ Txt.partition x plusS = (x, Str.empty, Str.empty)) ∨ (∃ h t, x = h ++ plusS ++ t ∧ Txt.partition x plusS = (h, plusS, t)) := by
  by_cases hx : 43 ∈ tl x
  · right
    obtain ⟨p, q, hp, hpq⟩ : ∃ p q, ¬ 43 ∈ p ∧ tl x = p ++ 43 :: q := by
      revert hx
      generalize tl x = l
      intro hx
      induction l with
      | nil => exact absurd hx (by simp)
      | cons a r ih =>
        by_cases ha : a = 43
        · exact ⟨[], r, by simp, by rw [ha]; rfl⟩
        · have hr : 43 ∈ r := by
            rcases List.mem_cons.1 hx with h | h
            · exact absurd h.symm ha
            · exact h
          obtain ⟨p, q, h1, h2⟩ := ih hr
          refine ⟨a :: p, q, ?_, by rw [h2]; rfl⟩
          intro hm
          rcases List.mem_cons.1 hm with h | h
          · exact ha h.symm
          · exact h1 h
    refine ⟨S p, S q, ext_str ?_, ?_⟩
    · rw [tl_append, tl_append, hpq]
      show _ = p ++ [43] ++ q
      rw [List.append_assoc]
      rfl
    · have e : x = S p ++ plusS ++ S q := ext_str (by
        rw [tl_append, tl_append, hpq]
        show _ = p ++ [43] ++ q
        rw [List.append_assoc]
        rfl)
      rw [e]
      exact partition_app (s := 43) (S := []) rfl hp
  · exact .inl ⟨hx, partition_none (s := 43) (S := []) rfl hx⟩
/-- the law's own look: what partition tells of the text -/
theorem isT_part (x : Str) : isT x ↔ ((Txt.partition x plusS).2.1 ≠ Str.empty ∧ ∃ f n, isN (Txt.partition x plusS).1 f ∧ (Txt.partition x plusS).2.2 = dS n ∧ okT f n) := by
  constructor
  · rintro ⟨f, n, ok, rfl⟩
    rw [part_txt]
    refine ⟨?_, f, n, ⟨rfl, ok.1⟩, rfl, ok⟩
    show plusS ≠ Str.empty
    decide
  · rcases part_cases x with ⟨hx, e⟩ | ⟨h, t, rfl, e⟩ <;> rw [e]
    · rintro ⟨h, _⟩
      exact absurd rfl h
    · rintro ⟨_, f, n, ⟨h1, _⟩, h2, ok⟩
      exact ⟨f, n, ok, by rw [show h = dS f from h1, show t = dS n from h2]; rfl⟩
theorem isT_split {x : Str} {a b : Str} {f n : Int} (h : Txt.split x plusS = [a, b]) (ha : isN a f) (hb : isN b n) : x = txt f n := by
  rw [split_two h, ha.1, hb.1]
  rfl
theorem txt_inj {f n g m : Int} (h : txt f n = txt g m) : f = g ∧ n = m := by
  have h := congrArg (fun x => Txt.split x plusS) h
  simp only [split_txt] at h
  exact ⟨dS_inj (List.cons.inj h).1, dS_inj (List.cons.inj (List.cons.inj h).2).1⟩
end Tx1
end L2

/-! Words of texts. -/
namespace L2
open PySem PySem.Spec PyProof.Rows Tx1
section
variable {X : Cx}
def rMRp : V → List V → Hp → VK → Prop := fun x xs H Q => ∃ a b, x = .str a ∧ xs = [.str b] ∧ a.length ≤ sizeLine ∧ Q (.str (Txt.removeprefix a b)) H
theorem m_rp : MtR X "str.removeprefix" rMRp := mt_removeprefix
def rMDec : V → List V → Hp → VK → Prop := fun x xs H Q => ∃ a, x = .str a ∧ xs = [] ∧ True ∧ Q (.bl (Txt.isdecimal a)) H
theorem m_dec : MtR X "str.isdecimal" rMDec := mt_isdecimal
def rLenS : List V → Hp → VK → Prop := fun xs H Q => ∃ a, xs = [.str a] ∧ a.length ≤ sizeLine ∧ Q (.int a.length) H
theorem c_lenS : CallR X (.builtin "len") rLenS := by
  intro pins s σ H xs us Q I r ⟨a, e, hl, q⟩
  exact call_len pins s σ H xs us Q I r ⟨.str a, a.length, e, ⟨hl, rfl⟩, q⟩
def rIntS : List V → Hp → VK → Prop := fun xs H Q => ∃ a n, xs = [.str a] ∧ intText? a = some n ∧ a.length ≤ 640 ∧ Q (.int n) H
theorem c_intS : CallR X (.type "int") rIntS := call_int_str
def rAddT : R2 := fun x y H Q => ∃ i j, x = .str i ∧ y = .str j ∧ i.length + j.length ≤ sizeLine ∧ Q (.str (i ++ j)) H
theorem op_addT : OpR X (binaryOp .Add) rAddT := op_add_str
def rNotInT : R2 := fun x y H Q => ∃ i j, x = .str i ∧ y = .str j ∧ Q (.bl !!(Builtin.Str.occurrences j i 0 j.length 1).isEmpty) H
theorem op_notInT : OpR X (compareOp .NotIn) rNotInT := op_notIn_str
def rMSplit : V → List V → Hp → VK → Prop := fun x xs H Q => ∃ a b, x = .str a ∧ xs = [.str b] ∧ (b.length == 0) = false ∧ a.length + 2 ≤ sizeLine ∧ rNewStrs (Txt.split a b) H Q
def rMPart : V → List V → Hp → VK → Prop := fun x xs H Q => ∃ a b, x = .str a ∧ xs = [.str b] ∧ (b.length == 0) = false ∧ a.length ≤ sizeLine ∧ ∀ p : Addr, H p = none → Q (.ref p) (upd H p (.tup [.str (Txt.partition a b).1, .str (Txt.partition a b).2.1, .str (Txt.partition a b).2.2]))
variable {o e : Expr} {to te : TE} {apos pos : Pos}
theorem pe_splitQ (ho : PE X o to) (he : PE X e te) (hs : starEach [e] X.env = [(false, eval e X.env)] := by rfl) (hb : attributeBase o "split" X.env (eval o X.env) = eval o X.env := by rfl) (hp : (apos.endLine == pos.line) = true := by rfl) :
    PE X (.Call (.Attribute o "split" apos) [e] [] pos) (tM1 rMSplit to te) := pe_split ho he hs hb hp
theorem pe_partQ (ho : PE X o to) (he : PE X e te) (hs : starEach [e] X.env = [(false, eval e X.env)] := by rfl) (hb : attributeBase o "partition" X.env (eval o X.env) = eval o X.env := by rfl) (hp : (apos.endLine == pos.line) = true := by rfl) :
    PE X (.Call (.Attribute o "partition" apos) [e] [] pos) (tM1 rMPart to te) := pe_partition ho he hs hb hp
def rIxZ : R2 := fun x y H Q => ∃ z i c, x = .str z ∧ y = .int i ∧ 0 ≤ i ∧ i < 2 ^ 63 ∧ i < ↑z.length ∧ z.cps[i.toNat]? = some c ∧ Q (.str { cps := #[c] }) H
theorem pe_itemZ {a b : Expr} {ta tb : TE} (ha : PE X a ta) (hb : PE X b tb) (hp : PlainIxT b) : PE X (.Subscript a b pos) (tOp rIxZ ta tb) := pe_item_str ha hb hp
end
end L2
namespace AW
open PySem PySem.Spec PyProof.Rows L2 ClX Tx1
section
variable {c : Cw} {kn : Hp} {n : Nat} {σ : L2.St} {K : PySem.W.Frag} {Q : V → Hp → Nat → Prop} {E : XK} {EA : EAK} {B : List V → Hp → AK → AXK → Prop}
theorem sz {m : Nat} (h : m ≤ 100000) : m ≤ sizeLine := Nat.le_trans h (by rw [sizeLine_eq]; decide)
theorem w_bmS {r : V → List V → Hp → VK → Prop} {to : TE} {t : TA} (h : W c (to σ) kn n fun x kn1 n1 => (∃ a, x = .str a) ∧ W c (t σ) kn1 n1 fun xs kn2 n2 => W c (r x xs) kn2 n2 Q) : W c (tBM K "str" r to t σ) kn n Q :=
  fun H g Q' q => h H g _ fun x kn1 n1 H1 ⟨⟨a, e⟩, h1⟩ g1 => ⟨by subst e; exact rfl, h1 H1 g1 _ fun xs kn2 n2 H2 h2 g2 => h2 H2 g2 Q' q⟩
theorem w_bmS0 {r : V → List V → Hp → VK → Prop} {to : TE} (h : W c (to σ) kn n fun x kn1 n1 => (∃ a, x = .str a) ∧ W c (r x []) kn1 n1 Q) : W c (tBM0 K "str" r to σ) kn n Q :=
  fun H g Q' q => h H g _ fun x kn1 n1 H1 ⟨⟨a, e⟩, h1⟩ g1 => ⟨by subst e; exact rfl, h1 H1 g1 Q' q⟩
theorem w_m1 {r : V → List V → Hp → VK → Prop} {to te : TE} (h : W c (to σ) kn n fun x kn1 n1 => (∃ a, x = .str a) ∧ W c (te σ) kn1 n1 fun y kn2 n2 => W c (r x [y]) kn2 n2 Q) : W c (tM1 r to te σ) kn n Q :=
  fun H g Q' q => h H g _ fun x kn1 n1 H1 ⟨e, h1⟩ g1 => ⟨e, h1 H1 g1 _ fun xs kn2 n2 H2 h2 g2 => h2 H2 g2 Q' q⟩
theorem r_rp {a b : Str} (hl : a.length ≤ 100000) (q : Q (.str (Txt.removeprefix a b)) kn n) : W c (rMRp (.str a) [.str b]) kn n Q := fun H g _ k => ⟨a, b, rfl, rfl, sz hl, k _ kn n H q g⟩
theorem r_dec {a : Str} (q : Q (.bl (Txt.isdecimal a)) kn n) : W c (rMDec (.str a) []) kn n Q := fun H g _ k => ⟨a, rfl, rfl, trivial, k _ kn n H q g⟩
theorem r_lenS {a : Str} (hl : a.length ≤ 100000) (q : Q (.int a.length) kn n) : W c (rLenS [.str a]) kn n Q := fun H g _ k => ⟨a, rfl, sz hl, k _ kn n H q g⟩
theorem r_intS {a : Str} {i : Int} (hi : intText? a = some i) (hl : a.length ≤ 640) (q : Q (.int i) kn n) : W c (rIntS [.str a]) kn n Q := fun H g _ k => ⟨a, i, rfl, hi, hl, k _ kn n H q g⟩
theorem r_addT {a b : Str} (hl : a.length + b.length ≤ 100000) (q : Q (.str (a ++ b)) kn n) : W c (rAddT (.str a) (.str b)) kn n Q := fun H g _ k => ⟨a, b, rfl, rfl, sz hl, k _ kn n H q g⟩
theorem r_notInT {a b : Str} (q : Q (.bl !!(Builtin.Str.occurrences b a 0 b.length 1).isEmpty) kn n) : W c (rNotInT (.str a) (.str b)) kn n Q := fun H g _ k => ⟨a, b, rfl, rfl, k _ kn n H q g⟩
theorem r_split {a b : Str} (hb : (b.length == 0) = false) (hl : a.length + 2 ≤ 100000) (q : ∀ p, kn p = none → Q (.ref p) (upd kn p (.lst ((Txt.split a b).map V.str))) n) : W c (rMSplit (.str a) [.str b]) kn n Q :=
  fun H g _ k => ⟨a, b, rfl, rfl, hb, sz hl, fun p hp => k _ _ n _ (q p (g.free hp)) (g.new hp)⟩
theorem r_part {a b : Str} (hb : (b.length == 0) = false) (hl : a.length ≤ 100000) (q : ∀ p, kn p = none → Q (.ref p) (upd kn p (.tup [.str (Txt.partition a b).1, .str (Txt.partition a b).2.1, .str (Txt.partition a b).2.2])) n) : W c (rMPart (.str a) [.str b]) kn n Q :=
  fun H g _ k => ⟨a, b, rfl, rfl, hb, sz hl, fun p hp => k _ _ n _ (q p (g.free hp)) (g.new hp)⟩
theorem r_ixZ {z : Str} {i : Int} {d : Nat} (h0 : 0 ≤ i) (h1 : i < 2 ^ 63) (h2 : i < z.length) (h3 : z.cps[i.toNat]? = some d) (q : Q (.str { cps := #[d] }) kn n) : W c (rIxZ (.str z) (.int i)) kn n Q := fun H g _ k => ⟨z, i, d, rfl, rfl, h0, h1, h2, h3, k _ kn n H q g⟩
theorem r_slS {z : Str} {lo hi : Option Int} (hl : z.length ≤ 100000) (q : Q (.str (cutS z lo hi)) kn n) : W c (rSlS (.str z) lo hi) kn n Q := fun H g _ k => ⟨z, rfl, sz hl, k _ kn n H q g⟩
/-- a classmethod -/
theorem w_cmeth {C : Addr} {ta : TE} {t : TA} (hm : MonoX B) (hE : ErrOk c EA E) (h : W c (ta σ) kn n fun x kn1 n1 => x = .ref C ∧ W c (t σ) kn1 n1 fun vs kn2 n2 => B (.ref C :: vs) kn2 (fun v k => Q v k n2) (fun cls d k => EA cls d k n2)) : W c (tCMeth C (liftX B) E ta t σ) kn n Q :=
  fun H g Q' q => h H g _ fun x kn1 n1 H1 ⟨e, h1⟩ g1 => ⟨e, h1 H1 g1 _ fun vs kn2 n2 H2 h2 g2 => sp_call hm hE h2 H2 g2 Q' q⟩
def chr1 (d : Nat) : V := .str { cps := #[d] }
theorem gives_str {a : Str} : Gives (Its a) ((TL.tl a).map chr1) fun _ => True := fun kn H e h =>
  ⟨fun i hi => by show i < a.cps.size; simpa [TL.tl] using hi, fun i hi => by show a.cps.size ≤ i; simpa [TL.tl] using hi, fun i x H' y => ⟨y.1, fun hi => by
    obtain ⟨_, d, hd, rfl⟩ := y
    rw [List.getElem?_map]
    have : (TL.tl a)[i]? = some d := by simpa [TL.tl] using hd
    rw [this]
    rfl⟩⟩
theorem i_str {te : TE} {R : It → Hp → Nat → Prop} (h : W c (te σ) kn n fun x kn1 n1 => ∃ z, x = .str z ∧ R (Its z) kn1 n1) : WI c (iStr te σ) kn n R :=
  fun H g R' q => h H g _ fun x kn1 n1 H1 ⟨z, e, hr⟩ g1 => ⟨z, e, q _ _ _ _ hr g1⟩
end
end AW

/-! Lists or tuples, also those of the written part; join, stars, lists repeated, steps of slices; what is never reached. -/
namespace L2
open PySem PySem.Spec PyProof.Rows ClX
section
variable {X : Cx}
/-- what no run comes to -/

theorem pe_never {e : Expr} : PE X e (fun _ _ _ => False) := ⟨fun _ _ _ _ _ _ h => h.elim⟩
def rRepQ : R2 := fun x y H Q => ∃ l k xs, x = .ref l ∧ y = .int k ∧ H l = some (.lst xs) ∧ -(2 ^ 63) ≤ k ∧ k < 2 ^ 63 ∧ xs.length * k.toNat ≤ sizeLine ∧ ∀ p, H p = none → Q (.ref p) (upd H p (.lst (List.replicate k.toNat xs).flatten))
theorem op_repQ : OpR X (binaryOp .Mult) rRepQ := op_rep
def rTupQ (K : PySem.W.Frag) : List V → Hp → VK → Prop := fun xs H Q => ∃ p ys, xs = [.ref p] ∧ ((SqL K H p ys ∧ ∀ l, H l = none → Q (.ref l) (upd H l (.tup ys))) ∨ (SqT K H p ys ∧ Q (.ref p) H))
theorem c_tupQ : CallR X (.type "tuple") (rTupQ X.K) := call_tuple_of
def rJoinQ (K : PySem.W.Frag) : V → List V → Hp → VK → Prop := fun x xs H Q => ∃ a p, ∃ ys : List Str, x = .str a ∧ xs = [.ref p] ∧ (SqL K H p (ys.map V.str) ∨ SqT K H p (ys.map V.str)) ∧ (ys.map (·.length)).sum + ys.length * a.length ≤ 16777216 ∧ Q (.str (Txt.join a ys)) H
theorem pe_joinQ {o e : Expr} {to te : TE} {apos pos : Pos} (ho : PE X o to) (he : PE X e te) (hs : starEach [e] X.env = [(false, eval e X.env)] := by rfl) (hb : attributeBase o "join" X.env (eval o X.env) = eval o X.env := by rfl) (hp : (apos.endLine == pos.line) = true := by rfl) :
    PE X (.Call (.Attribute o "join" apos) [e] [] pos) (tM1 (rJoinQ X.K) to te) := pe_join ho he hs hb hp
/-- the truth of a list or a tuple -/
def tTru (K : PySem.W.Frag) (ta : TE) : TT := fun σ H Q => ta σ H fun x H' => ∃ k, TruV K x H' k ∧ Q k H'
theorem pt_truthQ {a : Expr} {ta : TE} (ha : PE X a ta) (he : ∀ whole, isTrue a X.env whole = (do let v ← whole; standAt a.pos; holding [v] (truthy v))) : PT X a (tTru X.K ta) := pt_truth ha he
/-- the items at a + k, a + 2 k, .. -/
def pick3 {α : Type} (xs : List α) (lo hi st : Option Int) : List α := (sliceRange (sliceBounds lo hi st xs.length).1 (sliceBounds lo hi st xs.length).2.1 (sliceBounds lo hi st xs.length).2.2).filterMap (xs[·]?)
theorem vals_pick {xs : List V} {us : List Value} (r : Vals xs us) : ∀ is : List Nat, Vals (is.filterMap (xs[·]?)) (is.filterMap (us[·]?))
  | [] => .nil
  | i :: is => by
    rw [List.filterMap_cons, List.filterMap_cons]
    cases h : xs[i]? with
    | none => rw [r.none_of h]; exact vals_pick r is
    | some x =>
      obtain ⟨u, hu, ru⟩ := r.get h
      rw [hu]
      exact .cons ru (vals_pick r is)
theorem vals_pick3 {xs : List V} {us : List Value} (r : Vals xs us) (lo hi st : Option Int) : Vals (pick3 xs lo hi st) (slicePick us.toArray lo hi st).toList := by
  have e : (slicePick us.toArray lo hi st).toList = pick3 us lo hi st := by
    unfold slicePick pick3
    simp
  rw [e]
  unfold pick3
  rw [r.length]
  exact vals_pick r _
def tSl3 (K : PySem.W.Frag) (te : TE) (tl th : TO) (k : Int) : TE := fun σ H Q => te σ H fun x H1 => tl σ H1 fun l H2 => th σ H2 fun u H3 => ∃ a xs, x = .ref a ∧ SqL K H3 a xs ∧ ∀ p, H3 p = none → Q (.ref p) (upd H3 p (.lst (pick3 xs l u (some k))))
theorem pe_sl3 {e : Expr} {te : TE} {lo hi : Option Expr} {tl th : TO} {k : Int} {j : Nat} {p1 p2 pos : Pos} (hk : k ≠ 0) (he : PE X e te) (hl : PO X lo tl) (hu : PO X hi th) (hst : PO X (some (.Constant (.int k) j p1)) (tPart (tC (.int k)))) :
    PE X (.Subscript e (.Slice lo hi (some (.Constant (.int k) j p1)) p2) pos) (tSl3 X.K te tl th k) := by
  refine ⟨fun pins s σ H Q I h => ?_⟩
  refine Subscript_ (thn (he.run pins s σ H _ I h) fun v s1 ⟨x, H1, I1, r1, q1⟩ => ?_)
  refine wpAny_Slice (thn (hl.run pins s1 σ H1 _ I1 q1) fun vl s2 ⟨l, H2, I2, pl, q2⟩ => thn (hu.run pins s2 σ H2 _ I2 q2) fun vu s3 ⟨u, H3, I3, pu, q3⟩ => ?_)
  refine thn (hst.run pins s3 σ H3 (fun o H4 => o = some k ∧ H4 = H3) I3 ⟨k, rfl, rfl, rfl⟩) fun vs s4 ⟨o, H4, I4, ps, eo, e4⟩ => ?_
  subst eo e4
  obtain ⟨a, xs, ex, hx, q⟩ := q3
  subst ex
  cases r1
  have I5 : Inv X pins σ H4 { s4 with heap := s4.heap.push { cls := .type "slice", data := .fields #[vl, vu, vs] } } := I4.kept (t' := s4.toks) fun b ob q => Heap.get?_push_of_some _ q
  obtain ⟨its, r, ht, hz⟩ := I5.list hx
  have hlen := r.length
  show wpAny (model X.prog X.w) X.A (subscriptTail e (.Slice lo hi (some (.Constant (.int k) j p1)) p2) (.ref a) (.ref s4.heap.objs.size)) (EP X pins σ Q) X.xe { s4 with heap := s4.heap.push { cls := .type "slice", data := .fields #[vl, vu, vs] } }
  refine tail_any (ops := [.ref a, .ref s4.heap.objs.size]) ht.isList.typeIs (PySem.slot_list_getitem.lookup) ?_ (by with_unfolding_all rfl)
  have hz2 : its.toArray.size ≤ sizeLine := by rw [List.size_toArray]; omega
  refine wpAny_getItem_list_slice ht.isList (Heap.IsSliceOf.new _ vl vu vs) pl pu ps (fun z => hk (Option.some.inj z)) ?_ hz2
  refine ⟨.ref _, _, I5.laid (t' := s4.toks) (o := .lst (pick3 xs l u (some k))) (fun b ob q => Heap.get?_push_of_some _ q) (Nat.le_refl _) ?_, rfl, q _ (I5.hok.fresh (Nat.le_refl _))⟩
  have v := vals_pick3 r l u (some k)
  refine ⟨?_, (slicePick its.toArray l u (some k)).toList, 0, v, ?_⟩
  · rw [v.length, Array.length_toList]
    exact Nat.le_trans (slicePick_size_le _ _ _ _) hz2
  · rw [Array.toArray_toList]
    exact Heap.get?_push_size _ rfl
end
/-- a tuple of the written part -/
def KTup (K : PySem.W.Frag) (a : Addr) (xs : List V) : Prop := ∃ (o : Obj) (its : Array Value) (n : Nat), K.lookup a = some o ∧ o.cls = .type "tuple" ∧ o.data = .seq its n ∧ its.size ≤ sizeLine ∧ Vals xs its.toList
/-- a list or a tuple with these items -/
def SeqV (K : PySem.W.Frag) (kn : Hp) (v : V) (xs : List V) : Prop := ∃ a, v = .ref a ∧ (kn a = some (.lst xs) ∨ kn a = some (.tup xs) ∨ KTup K a xs)
theorem SeqV.ext {K : PySem.W.Frag} {kn kn' : Hp} {v : V} {xs : List V} (e : Ext kn kn') (h : SeqV K kn v xs) : SeqV K kn' v xs := by
  obtain ⟨a, rfl, h | h | h⟩ := h
  · exact ⟨a, rfl, .inl (e _ _ h)⟩
  · exact ⟨a, rfl, .inr (.inl (e _ _ h))⟩
  · exact ⟨a, rfl, .inr (.inr h)⟩
theorem SeqV.ty {K : PySem.W.Frag} {kn : Hp} {v : V} {xs : List V} (h : SeqV K kn v xs) : TyX K kn v (.type "list") ∨ TyX K kn v (.type "tuple") := by
  obtain ⟨a, rfl, h | h | ⟨o, its, n, e, c, _⟩⟩ := h
  · exact .inl (.base (.lst h))
  · exact .inr (.base (.tup h))
  · exact .inr (.kTuple e c)
end L2
namespace AW
open PySem PySem.Spec PyProof.Rows L2 ClX StX
section
variable {c : Cw} {kn : Hp} {n : Nat} {σ : L2.St} {Q : V → Hp → Nat → Prop} {QA : List V → Hp → Nat → Prop} {K : PySem.W.Frag}
theorem r_repQ {l : Addr} {xs : List V} {k : Int} (h : kn l = some (.lst xs)) (h1 : -(2 ^ 63) ≤ k) (h2 : k < 2 ^ 63) (h3 : xs.length * k.toNat ≤ 100000) (q : ∀ p, kn p = none → Q (.ref p) (upd kn p (.lst (List.replicate k.toNat xs).flatten)) n) : W c (rRepQ (.ref l) (.int k)) kn n Q :=
  fun H g _ f => ⟨l, k, xs, rfl, rfl, g.ex _ _ h, h1, h2, sz h3, fun p hp => f _ _ n _ (q p (g.free hp)) (g.new hp)⟩
theorem r_tupL {p : Addr} {xs : List V} (h : kn p = some (.lst xs)) (q : ∀ l, kn l = none → Q (.ref l) (upd kn l (.tup xs)) n) : W c (rTupQ K [.ref p]) kn n Q :=
  fun H g _ f => ⟨p, xs, rfl, .inl ⟨sql (g.ex _ _ h), fun l hl => f _ _ n _ (q l (g.free hl)) (g.new hl)⟩⟩
theorem r_joinQ {a : Str} {p : Addr} {ys : List Str} (h : kn p = some (.lst (ys.map V.str))) (hs : (ys.map (·.length)).sum + ys.length * a.length ≤ 16777216) (q : Q (.str (Txt.join a ys)) kn n) : W c (rJoinQ K (.str a) [.ref p]) kn n Q :=
  fun H g _ f => ⟨a, p, ys, rfl, rfl, .inl (sql (g.ex _ _ h)), hs, f _ kn n H q g⟩
theorem w_star {te : TE} {t : TA} (h : W c (te σ) kn n fun x kn1 n1 => ∃ p xs, x = .ref p ∧ (kn1 p = some (.lst xs) ∨ kn1 p = some (.tup xs)) ∧ W c (t σ) kn1 n1 fun ys kn2 n2 => QA (xs ++ ys) kn2 n2) : W c (tStar K te t σ) kn n QA :=
  fun H g Q' q => h H g _ fun x kn1 n1 H1 ⟨p, xs, e, hp, h1⟩ g1 => ⟨p, xs, e, hp.symm.imp (fun z => sqt (g1.ex _ _ z)) (fun z => sql (g1.ex _ _ z)), h1 H1 g1 _ fun ys kn2 n2 H2 h2 g2 => q _ _ _ _ h2 g2⟩
theorem w_sl3 {te : TE} {tl th : TO} {k : Int} (h : W c (te σ) kn n fun x kn1 n1 => W c (tl σ) kn1 n1 fun l kn2 n2 => W c (th σ) kn2 n2 fun u kn3 n3 => ∃ a xs, x = .ref a ∧ kn3 a = some (.lst xs) ∧ ∀ p, kn3 p = none → Q (.ref p) (upd kn3 p (.lst (pick3 xs l u (some k)))) n3) : W c (tSl3 K te tl th k σ) kn n Q :=
  fun H g Q' q => h H g _ fun x kn1 n1 H1 h1 g1 => h1 H1 g1 _ fun l kn2 n2 H2 h2 g2 => h2 H2 g2 _ fun u kn3 n3 H3 ⟨a, xs, e, ha, h3⟩ g3 => ⟨a, xs, e, sql (g3.ex _ _ ha), fun p hp => q _ _ _ _ (h3 p (g3.free hp)) (g3.new hp)⟩
theorem i_seq3 {i : Nat} {v : V} {xs : List V} {R : It → Hp → Nat → Prop} {kn0 : Hp} (hv : σ[i]? = some (some v)) (e0 : Ext kn0 kn) (hs : SeqV K kn0 v xs) (h : ∀ J ka, Gives J xs ka → (∀ k, Ext kn0 k → ka k) → R J kn n) : WI c (iSeq K (tVar i) σ) kn n R := by
  intro H g R' q
  obtain ⟨a, rfl, ha | ha | hk⟩ := hs
  · exact .inl (i_list (w_var hv ⟨a, xs, rfl, e0 _ _ ha, h _ _ gives_lst fun k e => e _ _ ha⟩) H g R' q)
  · exact .inr (i_tup (w_var hv ⟨a, xs, rfl, e0 _ _ ha, h _ _ gives_tup fun k e => e _ _ ha⟩) H g R' q)
  · refine .inr ⟨.ref a, hv, ⟨a, rfl, ⟨xs, .inr hk⟩, q _ _ _ _ (h (Itt K a) (fun _ => True) (fun kn H e _ => ?_) (fun _ _ => trivial)) g⟩⟩
    exact ⟨fun i hi => ⟨xs, xs[i], .inr hk, List.getElem?_eq_getElem hi⟩, fun i hi => ⟨xs, .inr hk, hi⟩, fun i x H' y => ⟨y.1, fun _ => y.2 xs (.inr hk)⟩⟩
theorem w_tru {ta : TE} {QB : Bool → Hp → Nat → Prop} (h : W c (ta σ) kn n fun x kn1 n1 => ∃ p xs, x = .ref p ∧ (kn1 p = some (.lst xs) ∨ kn1 p = some (.tup xs)) ∧ QB (!xs.isEmpty) kn1 n1) : W c (tTru K ta σ) kn n QB :=
  fun H g Q' q => h H g _ fun x kn1 n1 H1 ⟨p, xs, e, hp, hq⟩ g1 => ⟨_, by
    subst e
    rcases hp with z | z
    · exact .inl ⟨xs, sql (g1.ex _ _ z), rfl⟩
    · exact .inr (.inl ⟨xs, sqt (g1.ex _ _ z), rfl⟩), q _ _ _ _ hq g1⟩
/-- a comprehension of what changes nothing, items that are known one by one -/
theorem w_lcP {wi : TI} {gt : TG} {tt : TT} {te : TE} {vs : List Nat}
    (h : WI c (wi σ) kn n fun J kn1 n1 => ∃ (xs : List V) (ka : Hp → Prop) (f : V → V) (p : V → Bool), Gives J xs ka ∧ xs.length ≤ 100000 ∧ (∀ k, Ext kn1 k → ka k) ∧
      (∀ x ∈ xs, ∀ k, Ext kn1 k → WG c gt x (wipe σ vs) k n1 fun σ2 k2 n2 => k2 = k ∧ n2 = n1 ∧ wipe σ2 vs = wipe σ vs ∧ W c (tt σ2) k n1 fun b k3 n3 => b = p x ∧ k3 = k ∧ n3 = n1 ∧ (p x = true → W c (te σ2) k n1 fun y k4 n4 => y = f x ∧ k4 = k ∧ n4 = n1)) ∧
      ∀ D, kn1 D = none → Q (.ref D) (upd kn1 D (.lst ((xs.filter p).map f))) n1) : W c (tLc wi gt tt te vs σ) kn n Q := by
  refine w_lc (fun H g R' q => h H g R' fun J kn1 n1 H1 hJ g1 => q J kn1 n1 H1 ?_ g1)
  obtain ⟨xs, ka, f, p, hG, hl, hk, hs, hd⟩ := hJ
  have e1 : ∀ {k : Hp} {D : Addr} {o : HO}, k D = none → Ext k (upd k D o) := fun h x u e => know h e
  refine ⟨xs, ka, fun D i acc k m => m = n1 ∧ kn1 D = none ∧ acc = ((xs.take i).filter p).map f ∧ k = upd kn1 D (.lst acc), hG, hl, fun D hD => ⟨rfl, hD, by simp, rfl⟩, ?_, ?_, ?_⟩
  · rintro D i acc k m ⟨rfl, hD, rfl, rfl⟩
    refine ⟨hk _ (e1 hD), upd_same, ?_⟩
    rw [List.length_map]
    exact Nat.le_trans (List.length_filter_le _ _) (by rw [List.length_take]; exact Nat.min_le_left _ _)
  · rintro D i acc x k m hx ⟨rfl, hD, rfl, rfl⟩
    have ht : xs.take (i + 1) = xs.take i ++ [x] := by rw [List.take_add_one, hx]; rfl
    intro H g N' f'
    refine hs x (List.mem_of_getElem? hx) _ (e1 hD) H g N' fun σ2 k2 n2 H2 hq g2 => f' σ2 k2 n2 H2 ?_ g2
    obtain ⟨rfl, rfl, hw, hq⟩ := hq
    refine ⟨hw, hq.mono fun b k3 n3 hb => ?_⟩
    obtain ⟨rfl, rfl, rfl, he⟩ := hb
    refine ⟨fun hp => (he hp).mono fun y k4 n4 hy => ?_, fun hp => ⟨rfl, hD, ?_, rfl⟩⟩
    · obtain ⟨rfl, rfl, rfl⟩ := hy
      refine ⟨upd_same, rfl, hD, ?_, ?_⟩
      · rw [ht, List.filter_append, List.filter_cons_of_pos hp, List.map_append]; rfl
      · funext z
        by_cases hz : z = D
        · rw [hz, upd_same, upd_same]
        · rw [upd_ne hz, upd_ne hz, upd_ne hz]
    · rw [ht, List.filter_append, List.filter_cons_of_neg (by rw [hp]; exact Bool.false_ne_true)]
      simp
  · rintro D acc k m ⟨rfl, hD, rfl, rfl⟩
    rw [List.take_length]
    exact hd D hD
theorem w_yesT {QB : Bool → Hp → Nat → Prop} (q : QB true kn n) : W c (tYes σ) kn n QB := fun H g Q' k => k _ kn n H q g
/-- what no run comes to -/
theorem s_never {D : AE} (h : False) : WS c tNever D σ kn n := h.elim
theorem w_never {Q : V → Hp → Nat → Prop} (h : False) : W c ((fun _ _ _ => False : TE) σ) kn n Q := h.elim
end
end AW

/-! Ranges beyond 2^62. -/
namespace L2
open PySem PySem.Spec PyProof.Rows
theorem lot_int (tg : Expr) (it : Value) (i : Int) (t : Tok) : letOwnedTupleGo tg it (.int i t) = pure () := by
  cases tg <;> cases it <;> rfl
theorem iter_selfL (it : Addr) : Gives (Builtin.«dict_keyiterator.__iter__» { pos := [Value.ref it] }) (.val (.ref it)) := by
  intro prog w A R s h
  unfold Builtin.«dict_keyiterator.__iter__»
  refine wpAny_bind (wpAny_of_eq (a := ((Value.ref it : Value), ([] : List Value))) (by first | rfl | (simp only [slotArgs]; rfl)) ?_)
  exact wpAny_pure h
theorem pyIter_long {P : Program} {w : World} {A : Around} {E : Value → Shared → Prop} {s : Shared} {it : Addr} {x left step : Int} {Q : Value → Shared → Prop} (h : IsLongIter s.heap it x left step) (q : Q (.ref it) s) : wpAny (model P w) A (pyIter (.ref it)) Q E s := by
  have ty : s.TypeIs (.ref it) "longrange_iterator" := ⟨_, h, rfl⟩
  unfold pyIter
  refine wpAny_bind (wpAny_specialOf ty F.slot_longrange_iterator_iter.lookup ?_)
  dsimp only
  refine wpAny_bind (wpAny_callSpecialIfBoundUnlessNone?_slot ty F.slot_longrange_iterator_iter (call_gives F.slot_longrange_iterator_iter ty F.entry_longrange_iterator_iter (F.args_longrange_iterator_iter_1 _) (iter_selfL it) ?_))
  show wpAny _ _ _ _ _ _
  refine wpAny_bind (wpAny_specialOf ty F.slot_longrange_iterator_next.lookup ?_)
  exact wpAny_pure q
theorem turn_long {P : Program} {w : World} {K : PySem.W.Frag} {tg : Expr} (lo : Int) (n : Nat) (it : Addr) : Turn P w K tg (Itr lo n) [it] it (fun i h => i ≤ n ∧ IsLongIter h it (lo + (i : Int) * 1) ((n : Int) - i) 1) := by
  refine ⟨.head _, fun i h e b hb => ?_, fun i h h' e k => ?_, ?_, ?_, ?_⟩
  · rw [List.mem_singleton.1 hb]
    exact ⟨_, e.2, fun v z => nomatch z⟩
  · exact ⟨e.1, k it (.head _) _ e.2⟩
  · intro X hP hw hK hc i pins s σ H E I fp tn go
    subst hP hw hK
    have W := Walks.longrange (prog := X.prog) (w := X.w) (I.ok.hd hc) it lo 1 n
    refine W.item i s _ E go tn.2 fun v h' tk hv hs keep => ?_
    obtain ⟨t, rfl⟩ := hv
    refine ⟨_, rfl, ?_⟩
    rw [lot_int]
    obtain ⟨f1, f2, f3, f4, f5, f6⟩ := fp it (.head _)
    have go : i < n := go
    refine wpAny_pure ⟨.int (lo + i), H, I.turned (fun b o hb e => keep b o (by simp [hb]) e) f1 f2 f4 f5 f6, ?_, ⟨rfl, rfl⟩, ⟨go, hs⟩, fun b hb => by rw [List.mem_singleton.1 hb]; exact f1⟩
    exact ⟨t, by rw [Int.mul_one]⟩
  · intro X hP hw hK hc i pins s σ H E I fp tn st
    subst hP hw hK
    have W := Walks.longrange (prog := X.prog) (w := X.w) (I.ok.hd hc) it lo 1 n
    have st : n ≤ i := st
    obtain rfl : i = n := Nat.le_antisymm tn.1 st
    obtain ⟨f1, f2, f3, f4, f5, f6⟩ := fp it (.head _)
    exact W.done s _ E tn.2 fun h' tk keep => ⟨rfl, I.turned (fun b o hb e => keep b o (by simp [hb]) e) f1 f2 f4 f5 f6⟩
  · intro A i s Q E tn q
    exact pyIter_long tn.2 q
theorem size_1 (a b : Int) : Builtin.Range.rangeSize a b 1 = (((b - a).toNat : Nat) : Int) := by
  unfold Builtin.Range.rangeSize
  rw [if_pos (by decide)]
  split
  · rw [Int.ediv_one]
    omega
  · omega
/-- a range with any ends -/
def iRgA (tr : St → Hp → (Int → Int → Hp → Prop) → Prop) : TI := fun σ H R => tr σ H fun a b H1 => R (Itr a (b - a).toNat) H1
theorem pi_rangeA {X : Cx} {tg e : Expr} {tr : St → Hp → (Int → Int → Hp → Prop) → Prop} (he : PRg X e tr) : PI X tg e (iRgA tr) := by
  refine ⟨fun pins s σ H R I h => ?_⟩
  refine thn (he pins s σ H _ I h) fun x s1 ⟨r, a, b, t, u, v, H', ex, hr, I1, q⟩ => ?_
  subst ex
  have fp := I1.fpOk (b := s1.heap.objs.size) (Nat.le_refl _) (I1.hok.fresh (Nat.le_refl _))
  cases hs : Builtin.Range.small a b 1 with
  | true =>
    refine wpAny_pyIter_range hr hs ?_
    refine ⟨s1.heap.objs.size, [s1.heap.objs.size], _, Itr a (b - a).toNat, H', rfl, I1.kept (t' := s1.toks) fun c o e => Heap.get?_push_of_some _ e, turn_range s1.heap.objs.size a (b - a).toNat, ?_, fun c hc => by rw [List.mem_singleton.1 hc]; exact fp, q⟩
    show IsRangeIter _ _ _ _ _
    rw [size_1]
    have e1 : a + ((0 : Nat) : Int) * 1 = a := by omega
    have e2 : (((b - a).toNat : Nat) : Int) - ((0 : Nat) : Int) = (((b - a).toNat : Nat) : Int) := by omega
    rw [e1, e2]
    exact Heap.get?_push_size _ rfl
  | false =>
    refine wpAny_pyIter_longrange hr hs ?_
    refine ⟨s1.heap.objs.size, [s1.heap.objs.size], _, Itr a (b - a).toNat, H', rfl, I1.kept (t' := s1.toks) fun c o e => Heap.get?_push_of_some _ e, turn_long a (b - a).toNat s1.heap.objs.size, ⟨Nat.zero_le _, ?_⟩, fun c hc => by rw [List.mem_singleton.1 hc]; exact fp, q⟩
    show IsLongIter _ _ _ _ _
    rw [size_1]
    have e1 : a + ((0 : Nat) : Int) * 1 = a := by omega
    have e2 : (((b - a).toNat : Nat) : Int) - ((0 : Nat) : Int) = (((b - a).toNat : Nat) : Int) := by omega
    rw [e1, e2]
    exact Heap.get?_push_size _ rfl
end L2
namespace AW
open PySem PySem.Spec L2
theorem i_rgA {c : Cw} {kn : Hp} {n : Nat} {σ : L2.St} {ta tb : TE} {R : It → Hp → Nat → Prop} (h : W c (ta σ) kn n fun x kn1 n1 => W c (tb σ) kn1 n1 fun y kn2 n2 => ∃ i j, x = .int i ∧ y = .int j ∧ R (Itr i (j - i).toNat) kn2 n2) : WI c (iRgA (tRg2 ta tb) σ) kn n R :=
  fun H g R' q => h H g _ fun x kn1 n1 H1 h1 g1 => h1 H1 g1 _ fun y kn2 n2 H2 ⟨i, j, ex, ey, hr⟩ g2 => ⟨i, j, ex, ey, q _ _ _ _ hr g2⟩
end AW

/-! Tuples and lists of the same things compared: also of things that are no data. -/
namespace L2
open PySem PySem.Spec PyProof.Rows
theorem eqAt_ref {A : Around} {s : Shared} (a : Addr) : SeqAt.EqAt A s (.ref a) (.ref a) true := by
  intro prog w E Q q
  unfold eqBool
  refine wpAny_holding ?_
  rw [if_pos (by simp)]
  exact wpAny_bind (wpAny_rule (wpAny_pure q))
def plainV : V → Bool
  | .ref _ => true
  | v => flatB v
theorem eqAt_plain {A : Around} {s : Shared} {v : V} {u u' : Value} (r : RelV v u) (r' : RelV v u') (h : plainV v = true) : SeqAt.EqAt A s u u' true := by
  cases v with
  | ref a =>
    cases (show u = Value.ref a from r)
    cases (show u' = Value.ref a from r')
    exact eqAt_ref a
  | _ => exact eqAt_same r r' h
def rEqS (K : PySem.W.Frag) (neg : Bool) : R2 := fun x y H Q => ∃ p q xs, x = .ref p ∧ y = .ref q ∧ ((SqT K H p xs ∧ SqT K H q xs)) ∧ (∀ v ∈ xs, plainV v = true) ∧ Q (.bl (!neg)) H
section
variable {X : Cx}
theorem op_eqS (hu : X.A.units < cLine) : OpR X (compareOp .Eq) (rEqS X.K false) := by
  intro pins s σ H x y v u Q I rx ry h
  obtain ⟨p, q, xs, rfl, rfl, ⟨h1, h2⟩, hf, hq⟩ := h
  cases rx
  cases ry
  obtain ⟨its, v1, T1, z1⟩ := I.tuple h1
  obtain ⟨its2, v2, T2, z2⟩ := I.tuple h2
  obtain ⟨⟨c1, dd1, da1, sl1⟩, g1, rfl, n1, rfl⟩ := T1
  obtain ⟨⟨c2, dd2, da2, sl2⟩, g2, rfl, n2, rfl⟩ := T2
  have l1 := v1.length
  have l2 := v2.length
  show wpAny _ _ (richCompare .Eq (.ref p) (.ref q)) _ _ _
  refine wpAny_richCompare_same_or (T := "tuple") ⟨_, g1, rfl⟩ ⟨_, g2, rfl⟩ F.slot_tuple_eq ?_ (.inr hu)
  refine call_meets F.slot_tuple_eq ⟨_, g1, rfl⟩ F.entry_tuple_eq (F.args_tuple_eq_2 _ _) (SeqAt.tuple_eqAt p q its.toArray its2.toArray n1 n2 dd1 dd2 sl1 sl2 fun _ => true) ⟨g1, g2, fun j k1 k2 => ?_, ?_⟩
  · rw [List.size_toArray] at k1 k2
    have hx : j < xs.length := by omega
    obtain ⟨u1, e1, r1⟩ := v1.get (List.getElem?_eq_getElem hx)
    obtain ⟨u2, e2, r2⟩ := v2.get (List.getElem?_eq_getElem hx)
    rw [List.getElem?_eq_getElem k1] at e1
    rw [List.getElem?_eq_getElem k2] at e2
    cases e1
    cases e2
    exact eqAt_plain r1 r2 (hf _ (List.getElem_mem hx))
  · have e : ((List.range (min its.toArray.size its2.toArray.size)).all (fun _ => true) && its.toArray.size == its2.toArray.size) = true := by
      rw [List.size_toArray, List.size_toArray, ← l1, ← l2]
      simp
    rw [e]
    exact ⟨(fun z => nomatch z), ⟨.bl true, H, I, rfl, hq⟩⟩
end
end L2
namespace AW
open PySem PySem.Spec L2
theorem r_eqS {c : Cw} {kn : Hp} {n : Nat} {Q : V → Hp → Nat → Prop} {K : PySem.W.Frag} {p q : Addr} {xs : List V} (h1 : kn p = some (.tup xs)) (h2 : kn q = some (.tup xs)) (hf : ∀ v ∈ xs, plainV v = true) (k : Q (.bl true) kn n) : W c (rEqS K false (.ref p) (.ref q)) kn n Q :=
  fun H g _ z => ⟨p, q, xs, rfl, rfl, ⟨sqt (g.ex _ _ h1), sqt (g.ex _ _ h2)⟩, hf, z _ kn n H k g⟩
end AW

/-! bool of a tuple, repr of a number or None, a dict of one entry. -/
namespace L2
open PySem PySem.Spec PyProof.Rows
section
variable {X : Cx}
def rBoolT (K : PySem.W.Frag) : List V → Hp → VK → Prop := fun xs H Q => ∃ (a : Addr) (zs : List V), xs = [.ref a] ∧ SqT K H a zs ∧ Q (.bl (!zs.isEmpty)) H
theorem c_boolT : CallR X (.type "bool") (rBoolT X.K) := by
  intro pins s σ H xs us Q I r h
  obtain ⟨a, zs, rfl, hq, q⟩ := h
  obtain ⟨u, rfl, rx⟩ := vals1 r
  cases (show u = Value.ref a from rx)
  obtain ⟨its, rv, pl, hz⟩ := I.tuple hq
  have hl := line63
  have hlen := rv.length
  refine callType_newIn PySem.F.called_bool PySem.F.newNe_bool (PySem.F.typeCall_bool_1 _) (PySem.F.newCall_bool_1 _) (fun obj => PySem.F.args_object_init_2 obj _) PySem.F.entry_bool_new bool_new_own ?_
  refine truthy_tuple pl (by simp only [List.size_toArray]; omega) ?_
  refine ⟨PySem.typeIs_bool _ _, .bl (!zs.isEmpty), H, I.tok _, ?_, q⟩
  rw [isEmpty_of rv]
  rfl
def rReprS : List V → Hp → VK → Prop := fun xs H Q => (∃ i : Int, xs = [.int i] ∧ i.natAbs.log2 < 1920 ∧ Q (.str (toString i)) H) ∨ (xs = [.non] ∧ Q (.str "None") H)
theorem c_reprS : CallR X (.builtin "repr") rReprS := by
  intro pins s σ H xs us Q I r h
  rcases h with ⟨i, rfl, hz, q⟩ | ⟨rfl, q⟩
  · obtain ⟨u, rfl, t, rfl⟩ := vals1 r
    exact PySem.P.repr_of_int hz ⟨.str _, H, I.tok _, ⟨_, rfl⟩, q⟩
  · obtain ⟨u, rfl, rx⟩ := vals1 r
    cases (show u = Value.none from rx)
    exact PySem.P.repr_of_none ⟨.str "None", H, I.tok _, ⟨_, rfl⟩, q⟩
end
end L2
namespace AW
open PySem PySem.Spec L2
section
variable {K : PySem.W.Frag} {c : Cw} {kn : Hp} {n : Nat} {σ : L2.St} {Q : V → Hp → Nat → Prop}
theorem r_boolT {p : Addr} {xs : List V} (h : kn p = some (.tup xs)) (q : Q (.bl (!xs.isEmpty)) kn n) : W c (rBoolT K [.ref p]) kn n Q := fun H g _ k => ⟨p, xs, rfl, sqt (g.ex _ _ h), k _ kn n H q g⟩
def reprV : V → Str
  | .int i => Str.ofString (toString i)
  | _ => Str.ofString "None"
theorem r_reprS {v : V} (hv : (∃ i : Int, v = .int i ∧ i.natAbs.log2 < 1920) ∨ v = .non) (q : Q (.str (reprV v)) kn n) : W c (rReprS [v]) kn n Q := fun H g _ k => by
  rcases hv with ⟨i, rfl, hi⟩ | rfl
  · exact .inl ⟨i, rfl, hi, k _ kn n H q g⟩
  · exact .inr ⟨rfl, k _ kn n H q g⟩
/-- {k: v} -/
theorem w_dict1 {tk tv : TE} (h : ∀ p, kn p = none → W c (tk σ) (upd kn p (.dK [])) n fun x kn1 n1 => W c (tv σ) kn1 n1 fun y kn2 n2 => ∃ k, x = kV k ∧ kn2 p = some (.dK []) ∧ Q (.ref p) (upd kn2 p (.dK (mergeK [] [(k, y)]))) n2) : W c (tDisp [(tk, tv)] σ) kn n Q :=
  fun H g Q' q => fun p hp => h p (g.free hp) _ (g.new hp) _ fun x kn1 n1 H1 h1 g1 => h1 H1 g1 _ fun y kn2 n2 H2 ⟨k, e, hd, h2⟩ g2 => ⟨g2.ex _ _ hd, [(k, y)], by rw [e]; rfl, (show 1 ≤ 15 by decide), q _ _ _ _ h2 (g2.put hd rfl)⟩
end
end AW

/-! Own errors made: as values, and in a raise whose error may be caught and followed by another. -/
namespace L2
open PySem PySem.Spec PyProof.Rows
theorem Fun.okXN {P : Program} {w : World} {K : PySem.W.Frag} {mg : Str → Option Value} {base : Heap} {x qual : Str} {st : Stmt} {f : Addr} {fd : FuncData} {N ps : List Str} {k : Nat} {sp : Sp} (F : Fun K x qual st f fd) (S : FnScope N ps (defScope st)) (len : ∀ vs H Q E, sp vs H Q E → vs.length = ps.length)
    (hbody : ∀ (cdv : Value) (A : Around) (outer : List Env) (s : Shared) (H : Hp) (vs : List V) (Q : VK) (E : XK), Room k (A.deeper (envOfC qual (defScope st) s.heap.objs.size f cdv)) → sp vs H Q E →
      ∃ t, PSs (cxOf (L2N.CX P w) P w K mg base N qual (defScope st) f cdv A outer s H E) (defBody st) t ∧ t { nx := fun _ H' => Q .non H', rt := Q } (start N vs) H) : FnOk P w K mg base (L2N.CX P w) (k + 1) f fd ps sp := by
  obtain ⟨oc, od, kV, doc, pm, an, cdv, ct, osl, rfl, lk, hcd⟩ := F.ex
  exact ⟨len, fun A outer s H args us vs Q E hr e0 hb r hsp => LamX.run_ofS lk hcd S hr e0 hb r (len _ _ _ _ hsp) fun hr' => hbody cdv A outer s H vs Q E hr' hsp⟩
theorem passLN {X : Cx} : Passes (L2N.CX X.prog X.w) X E0 := fun pins σ H s e s' _ h => by
  obtain ⟨a, B, H', cls, d, _, _, _, _, _, _, _, z⟩ := h
  exact z.elim
section
variable {X : Cx} {CX : CXT} {k : Nat} {C fI : Addr} {fd : FuncData} {ps : List Str} {sp : Sp} {ds : List Value} {dvs : List V} {pins : List (Addr × Obj)} {σ : St} {H : Hp} {s : Shared} {us : List Value} {vs : List V}
theorem oex_core (T : OexC X.K C) (iC : PySem.W.findIn X.K (.ref C) "__init__" = some (some (.ref fI))) (tI : PySem.W.typeIn X.K (.ref fI) = some (.type "function")) (F : FnOk X.prog X.w X.K X.mg X.base CX k fI fd ps sp) (hr : Room (k + 1) X.A) (hb : Binds X.K fd ps ds) (hd : Vals dvs ds)
    (hx : Passes CX X (fun _ _ _ => False)) (I : Inv X pins σ H s) (rv : Vals vs us) (hl : vs.length ≤ 1000) {QQ : Addr → Hp → Prop} {R : Value → Shared → Prop}
    (hsp : ∀ a, H a = none → sp (.ref a :: (vs ++ dvs)) (upd H a (exo a C none)) (fun v H2 => v = .non ∧ QQ a H2) (fun _ _ _ => False))
    (fin : ∀ (a : Addr) (s2 s' : Shared) (H2 : Hp), H a = none → s.heap.objs.size ≤ a → (∀ b o, s.heap.get? b = some o → s2.heap.get? b = some o) → Inv X pins σ (upd H a (exo a C none)) s2 → s2.os = s.os →
      s'.os = s2.os → AllBare s'.gens → Un (frs X.stack) [] (upd H a (exo a C none)) H2 s2.heap s'.heap → HOk X.prog X.w H2 s'.heap → QQ a H2 → R (.ref a) s') :
    wpAny (model X.prog X.w) X.A (call (.ref C) us) R X.xe s := by
  obtain ⟨hp, g, d, t, os⟩ := s
  obtain ⟨nm, q, N, bs, bm, sn, sub, ab, col, dd, k0, k1, k2, k3, k5, lk, hbm⟩ := T.cls
  have hlu : us.length ≤ 1000 := by rw [← rv.length]; exact hl
  have keeps : ∀ b o, hp.get? b = some o → ((hp.push (PySem.W.kdv_tup us)).push (HandSPX.excO C hp.objs.size)).get? b = some o := fun b o e => Heap.get?_push_of_some _ (Heap.get?_push_of_some _ e)
  have hn : H (hp.objs.size + 1) = none := I.hok.fresh (Nat.le_succ _)
  have hsz : (hp.push (PySem.W.kdv_tup us)).objs.size = hp.objs.size + 1 := by simp [Heap.push]
  have I2 : Inv X pins σ (upd H (hp.objs.size + 1) (exo (hp.objs.size + 1) C none)) ⟨(hp.push (PySem.W.kdv_tup us)).push (HandSPX.excO C hp.objs.size), g, d, t, os⟩ :=
    I.laid (t' := t) keeps (Nat.le_succ _) (exo_ok (t1 := hp.objs.size) (by rw [← hsz]; exact Heap.get?_push_size _ rfl))
  refine wpAny_call ?_
  refine HandSPX.call_own PySem.F.excBase_ValueError (fun Y => HandSPX.refsVE_contains Y _ hbm) (I.kIn _ _ lk) (PySem.W.looks_findIn I.kIn iC) (fun self => PySem.W.bind_fn I.kIn self tI) (Nat.le_trans hlu (by rw [sizeLine_eq]; decide)) ?_
  have rr : Vals (V.ref (hp.objs.size + 1) :: (vs ++ dvs)) (Value.ref (hp.objs.size + 1) :: us ++ ds) := .cons rfl (rv.append hd)
  have hlen : (Value.ref (hp.objs.size + 1) :: us ++ ds).length = ps.length := by rw [← rr.length]; exact F.len _ _ _ _ (hsp _ hn)
  have e2 := I2.env0
  refine codeAny_mono (F.run (X.A.under (.builtin "type.__call__" { pos := .ref C :: us })) X.stack _ _ ⟨.ref (hp.objs.size + 1) :: us, []⟩ (.ref (hp.objs.size + 1) :: us ++ ds) (.ref (hp.objs.size + 1) :: (vs ++ dvs)) _ _ (hr.make C us []) ⟨e2.frames, e2.mod, e2.bs, e2.bsz, e2.funs, e2.frf, e2.hok, e2.bare⟩ (hb _ (.ref (hp.objs.size + 1) :: us) I2.kIn hlen) rr (hsp _ hn)) fun r s' hq => ?_
  cases r with
  | error e => exact hx pins σ _ _ e s' I2 hq
  | ok fl =>
    cases fl with
    | ret u =>
      obtain ⟨v, H2, os', bare, un, hok, rel, ev, q⟩ := hq
      subst ev
      exact ⟨rel, fin _ _ _ _ hn (Nat.le_succ _) keeps I2 rfl os' bare un hok q⟩
    | next => exact False.elim hq
    | brk => exact False.elim hq
    | cont => exact False.elim hq
variable {x : Str} {e : Expr} {es : List Expr} {ta : TA} {p pos : Pos}
/-- an own error made, as a value -/
def tMkV (C : Addr) (sp : Sp) (dvs : List V) (ta : TA) : TE := fun σ H Q => ta σ H fun vs H1 => vs.length ≤ 1000 ∧ ∀ a, H1 a = none → sp (.ref a :: (vs ++ dvs)) (upd H1 a (exo a C none)) (fun v H2 => v = .non ∧ Q (.ref a) H2) (fun _ _ _ => False)
theorem pe_oexV (T : OexC X.K C) (iC : PySem.W.findIn X.K (.ref C) "__init__" = some (some (.ref fI))) (tI : PySem.W.typeIn X.K (.ref fI) = some (.type "function")) (F : FnOk X.prog X.w X.K X.mg X.base CX k fI fd ps sp) (hr : Room (k + 1) X.A) (hb : Binds X.K fd ps ds) (hd : Vals dvs ds)
    (hx : Passes CX X (fun _ _ _ => False)) (hg : Gl X x) (hm : X.mg x = some (.ref C)) (ha : PA X (e :: es) ta) (hdb : (x == ("__debug__" : Str)) = false := by decide) (he : starEach (e :: es) X.env = (false, eval e X.env) :: starEach es X.env := by rfl) (hpl : (backTo pos (starEach es X.env)).any (·.1) = false := by rfl) :
    PE X (.Call (.Name x p) (e :: es) [] pos) (tMkV C sp dvs ta) := by
  refine ⟨fun pins s σ H Q I h => wpAny_Call_Name_kw (ld_glob I hg hm ?_ hdb)⟩
  refine PySem.W.callWith_K (h₀ := X.base) I.ok.mod.kin T.kC (thn (ha.run pos pins s σ H _ I h) fun us s1 ⟨vs, H1, I1, r, hl, q⟩ => ⟨I1.kIn, ?_⟩) he hpl
  refine oex_core T iC tI F hr hb hd hx I1 r hl (QQ := fun a H2 => Q (.ref a) H2) q fun a s2 s' H2 hn hs kp I2 os2 os' bare un hok hq => ?_
  exact I2.after ⟨.ref a, H2, os', bare, un, hok, rfl, hq⟩
theorem pmkN_oex (T : OexC X.K C) (iC : PySem.W.findIn X.K (.ref C) "__init__" = some (some (.ref fI))) (tI : PySem.W.typeIn X.K (.ref fI) = some (.type "function")) (F : FnOk X.prog X.w X.K X.mg X.base CX k fI fd ps sp) (hr : Room (k + 1) X.A) (hb : Binds X.K fd ps ds) (hd : Vals dvs ds)
    (hx : Passes CX X (fun _ _ _ => False)) (hg : Gl X x) (hm : X.mg x = some (.ref C)) (ha : PA X (e :: es) ta) (hdb : (x == ("__debug__" : Str)) = false := by decide) (he : starEach (e :: es) X.env = (false, eval e X.env) :: starEach es X.env := by rfl) (hpl : (backTo pos (starEach es X.env)).any (·.1) = false := by rfl) :
    L2N.PMk X (.Call (.Name x p) (e :: es) [] pos) (tMkO C sp dvs ta) := by
  intro pins s σ H Q I h
  refine wpAny_Call_Name_kw (ld_glob I hg hm ?_ hdb)
  refine PySem.W.callWith_K (h₀ := X.base) I.ok.mod.kin T.kC (thn (ha.run pos pins s σ H _ I h) fun us s1 ⟨vs, H1, I1, r, hl, q⟩ => ⟨I1.kIn, ?_⟩) he hpl
  refine oex_core T iC tI F hr hb hd hx I1 r hl (QQ := fun a H2 => ∃ d fs, H2 a = some (exo a C (some d)) ∧ H2 d = some (exd d fs) ∧ H1 d = none ∧ Q (.ref C) (some d) (upd (del H2 a) d (.xd fs))) q fun a s2 s' H2 hn hs kp I2 os2 os' bare un hok hq => ?_
  obtain ⟨d, fs, h1, h2, h3, hq⟩ := hq
  obtain ⟨hp, g1, d1, t1, os1⟩ := s1
  obtain ⟨hp2, g2, d2, t2, osx⟩ := s2
  obtain ⟨h', g', d', t', os3⟩ := s'
  obtain ⟨t0, G, IG, kG, nG, gG, nH⟩ := mk_end0 I1 hs kp un hok (os'.trans os2) bare h1 h2 h3
  refine ⟨a, _, _, ⟨G, g', d', t', os3⟩, _, _, _, rfl, IG, kG, nG, gG, ⟨rfl, rfl, fun vs hv => ?_⟩, rfl, rfl, nH, rfl, bare, ?_, hq⟩
  · cases hv
    rfl
  · exact raises_own T.exC T.tyC
end
end L2
namespace AW
open L2
theorem takesN_len {X : Cx} {W : WX} {m : Nat} (tk : L2N.Takes X W) (h : X.N.length = m := by rfl) : L2N.Takes X (fun cls d σ H => σ.length = m → W cls d σ H) :=
  fun u s' ⟨a, B, sI, pins, σ, H, cls, d, e, I, nb, up, sky, na, os, ag, w⟩ => tk u s' ⟨a, B, sI, pins, σ, H, cls, d, e, I, nb, up, sky, na, os, ag, w (I.len.trans h)⟩
end AW

/-! <=, <, >=, > and ~ of an own class; math.lcm. -/
namespace L2
open PySem PySem.Spec PyProof.Rows
section
variable {X : Cx} {CX : CXT} {k : Nat} {f C : Addr} {fd : FuncData} {ps : List Str} {sp : Sp} {E : XK}
structure CmpM (K : PySem.W.Frag) (op : CmpOp) (C f : Addr) : Prop where
  hs : PySem.W.findIn K (.ref C) (cmpInfo op).2.1 = some (some (.ref f))
  hf : PySem.W.isFn K (.ref f) = true
def rCmpO (K : PySem.W.Frag) (C : Addr) (sp : Sp) (E : XK) : R2 := fun x y H Q => ∃ a dx fs t, x = .ref a ∧ H a = some (.ins C dx fs) ∧ TyX K H y t ∧ PySem.W.notFirst K C t = true ∧ sp [.ref a, y] H Q E
theorem op_cmpO {op : CmpOp} (hop : ∀ a b, compareOp op a b = richCompare op a b) (M : CmpM X.K op C f) (F : FnOk X.prog X.w X.K X.mg X.base CX k f fd ps sp) (hr : Room (k + 1) X.A) (hb : Binds X.K fd ps []) (hx : Passes CX X E) : OpR X (compareOp op) (rCmpO X.K C sp E) := by
  intro pins s σ H x y v u Q I rx ry h
  obtain ⟨a, dx, fs, t, rfl, ha, ty, nf, hq⟩ := h
  cases rx
  obtain ⟨mA, J, _⟩ := ins_get I.hok ha
  obtain ⟨od, J, _⟩ := J.look
  have hbt := typeOf_of I ry ty
  obtain ⟨m, hF⟩ := I.fr
  rw [hop]
  refine PySem.W.cmp_K (op := op) hr.units0 hF I.ok.mod.kin J hbt nf M.hs M.hf ?_
  exact wpAny_mono (callA (vs := [.ref a, y]) F (hr.mono (Nat.le_succ _)) rfl hb hx I (.cons rfl (.cons ry .nil)) hq) (fun z s' hz => by
    obtain ⟨v', H', I', rv, q⟩ := id hz
    exact relV_ni rv hz) fun _ _ z => z
def rUnO (C : Addr) (sp : Sp) (E : XK) : V → Hp → VK → Prop := fun x H Q => ∃ a dx fs, x = .ref a ∧ H a = some (.ins C dx fs) ∧ sp [.ref a] H Q E
theorem un_invO (hs : PySem.W.findIn X.K (.ref C) "__invert__" = some (some (.ref f))) (hf : PySem.W.isFn X.K (.ref f) = true) (F : FnOk X.prog X.w X.K X.mg X.base CX k f fd ps sp) (hr : Room k X.A) (hb : Binds X.K fd ps []) (hx : Passes CX X E) : UnR X (unaryOp .Invert) (rUnO C sp E) := by
  intro pins s σ H x v Q I rx h
  obtain ⟨a, dx, fs, rfl, ha, hq⟩ := h
  cases rx
  obtain ⟨mA, J, _⟩ := ins_get I.hok ha
  obtain ⟨od, J, _⟩ := J.look
  unfold unaryOp
  refine wpAny_holding ?_
  dsimp only
  simp only [show ((UnaryOp.Invert == UnaryOp.Not)) = false from rfl, Bool.false_eq_true, if_false]
  refine wpAny_bind (PySem.W.special_fn I.kIn J hs (beq_iff_eq.mp hf) ?_)
  refine wpAny_mono (callA (vs := [.ref a]) F hr rfl hb hx I (.cons rfl .nil) hq) (fun z s' hz => ?_) fun _ _ z => z
  exact wpAny_pure hz
/-- math.lcm of two small numbers -/
def rLcm : List V → Hp → VK → Prop := fun vs H Q => ∃ a b : Nat, vs = [.int a, .int b] ∧ a ≤ 1000000 ∧ b ≤ 1000000 ∧ Q (.int (Nat.lcm a b : Nat)) H
theorem lcm_small {a b : Nat} (ha : a ≤ 1000000) (hb : b ≤ 1000000) : Nat.lcm a b ≤ 1000000000000 := by
  unfold Nat.lcm
  exact Nat.le_trans (Nat.div_le_self _ _) (Nat.le_trans (Nat.mul_le_mul ha hb) (by decide))
theorem cr_lcm : CallR X (.builtin "math.lcm") rLcm := by
  intro pins s σ H xs us Q I r h
  obtain ⟨a, b, rfl, ha, hb, q⟩ := h
  rcases r with _ | ⟨r1, r⟩
  rcases r with _ | ⟨r2, r⟩
  rcases r with _ | _
  obtain ⟨t1, rfl⟩ := r1
  obtain ⟨t2, rfl⟩ := r2
  have e : (Nat.lcm 1 ((a : Nat) : Int).natAbs).lcm ((b : Nat) : Int).natAbs = Nat.lcm a b := by
    rw [Int.natAbs_natCast, Int.natAbs_natCast, Nat.lcm_one_left]
  have hs := lcm_small ha hb
  refine PySem.W.mg_lcm (by omega) (by omega) ?_ ?_
  · rw [e, Int.natAbs_natCast]
    by_cases z : Nat.lcm a b = 0
    · rw [z]
      decide
    · exact Nat.lt_trans ((Nat.log2_lt z).mpr (show _ < 2 ^ 40 by omega)) (by decide)
  · rw [e]
    exact ⟨.int (Nat.lcm a b : Nat), H, I.tok _, ⟨_, rfl⟩, q⟩
end
end L2
namespace AW
open PySem PySem.Spec L2
section
variable {c : Cw} {kn : Hp} {n : Nat} {σ : L2.St} {Q : V → Hp → Nat → Prop} {K : PySem.W.Frag} {B : List V → Hp → AK → AXK → Prop} {E : XK} {EA : EAK}
theorem r_cmpO {C a dx : Addr} {fs : List (Str × V)} {y : V} {t : Value} (hm : MonoX B) (hE : ErrOk c EA E) (ha : kn a = some (.ins C dx fs)) (ty : TyX K kn y t) (nf : PySem.W.notFirst K C t = true)
    (h : B [.ref a, y] kn (fun v k => Q v k n) (fun cls d k => EA cls d k n)) : W c (rCmpO K C (liftX B) E (.ref a) y) kn n Q :=
  fun H g Q' q => ⟨a, dx, fs, t, rfl, g.ex _ _ ha, tyx_ext g.ex ty, nf, sp_call hm hE h H g Q' q⟩
theorem w_unO {te : TE} {C : Addr} (hm : MonoX B) (hE : ErrOk c EA E)
    (h : W c (te σ) kn n fun x kn1 n1 => ∃ a dx fs, x = .ref a ∧ kn1 a = some (.ins C dx fs) ∧ B [.ref a] kn1 (fun v k => Q v k n1) (fun cls d k => EA cls d k n1)) : W c (tUn (rUnO C (liftX B) E) te σ) kn n Q :=
  fun H g Q' q => h H g _ fun x kn1 n1 H1 ⟨a, dx, fs, e, ha, hb⟩ g1 => ⟨a, dx, fs, e, g1.ex _ _ ha, sp_call hm hE hb H1 g1 Q' q⟩
theorem r_lcm {a b : Nat} (ha : a ≤ 1000000) (hb : b ≤ 1000000) (q : Q (.int (Nat.lcm a b : Nat)) kn n) : W c (rLcm [.int a, .int b]) kn n Q := fun H g _ k => ⟨a, b, rfl, ha, hb, k _ kn n H q g⟩
end
end AW

/-! max(list of ints, default=d); set(list of ints) -/
namespace L2
open PySem PySem.Spec PyProof.Rows PySem PySem.W
def rMaxDf (K : PySem.W.Frag) : List V → List V → Hp → VK → Prop := fun vs zs H Q => ∃ (a : Addr) (ns : List Int) (d : V), vs = [V.ref a] ∧ zs = [d] ∧ SqL K H a (ns.map V.int) ∧ (ns = [] → Q d H) ∧ ∀ m, m ∈ ns → (∀ y, y ∈ ns → y ≤ m) → Q (.int m) H
theorem fold_mem : ∀ (ns : List Int) (n : Int), ns.foldl max n ∈ n :: ns ∧ ∀ y ∈ n :: ns, y ≤ ns.foldl max n
  | [], n => ⟨.head _, fun y hy => by rw [List.mem_singleton.1 hy]; exact Int.le_refl _⟩
  | m :: r, n => by
    obtain ⟨h1, h2⟩ := fold_mem r (max n m)
    rw [List.foldl_cons]
    have hm := h2 (max n m) (.head _)
    refine ⟨?_, fun y hy => ?_⟩
    · rcases List.mem_cons.1 h1 with e | h
      · rw [e]
        rcases Int.le_total n m with z | z
        · rw [Int.max_eq_right z]; exact .tail _ (.head _)
        · rw [Int.max_eq_left z]; exact .head _
      · exact .tail _ (.tail _ h)
    · rcases List.mem_cons.1 hy with rfl | hy
      · exact Int.le_trans (Int.le_max_left _ _) hm
      · rcases List.mem_cons.1 hy with rfl | hy
        · exact Int.le_trans (Int.le_max_right _ _) hm
        · exact h2 y (.tail _ hy)
theorem alike_ints (ns : List Int) : AlikeAll (ns.map PyData.int) := by
  refine ⟨fun x hx y hy => ?_, fun x hx => ?_⟩
  · obtain ⟨i, _, rfl⟩ := List.mem_map.1 hx
    obtain ⟨j, _, rfl⟩ := List.mem_map.1 hy
    rfl
  · obtain ⟨i, _, rfl⟩ := List.mem_map.1 hx
    exact nofun
theorem depth_ints : ∀ ns : List Int, PyData.depthAll (ns.map PyData.int) = 0
  | [] => by simp [PyData.depthAll]
  | n :: r => by simp only [List.map_cons, PyData.depthAll, PyData.depth]; rw [depth_ints r]; rfl
theorem dpi : ∀ {K : PySem.W.Frag} {H : Hp} (ns : List Int), DpAll K H (ns.map V.int) (ns.map PyData.int)
  | _, _, [] => .nil
  | _, _, n :: r => .cons (.int n) (dpi r)
theorem cr_maxDf {X : Cx} (hc : X.calm = true) (hu : X.A.units + 64 < cLine) : CallRK X (.builtin "max") [Str.ofString "default"] (rMaxDf X.K) := by
  intro pins s σ H vs zs us ws Q I r rz h
  obtain ⟨a, ns, d, rfl, rfl, hs, h0, h1⟩ := h
  obtain rfl := Vals.ref1 r
  cases rz with
  | cons rd rt =>
    cases rt
    obtain ⟨its, rv, pl, hz⟩ := I.list hs
    obtain ⟨as, hr⟩ := Dp.readsAll I _ _ _ (dpi ns) rv
    refine max_list_default (I.ok.hd hc) pl.isList (by simpa using hr) (alike_ints ns) (by rw [depth_ints]; omega) (fun e h' tk hk => ?_) fun y ys i v h' tk bs e hv hrd hk => ?_
    · have e : ns = [] := by cases ns with | nil => rfl | cons => cases e
      exact ⟨d, H, I.kept hk, rd, h0 e⟩
    · cases ns with
      | nil => cases e
      | cons n r =>
        cases e
        rw [maxD_ints] at hrd
        obtain ⟨m1, m2⟩ := fold_mem r n
        refine ⟨.int (r.foldl max n), H, I.kept hk, ?_, h1 _ m1 m2⟩
        cases hrd
        exact ⟨_, rfl⟩
/-! ### set(list) -/
/-- a set that holds nothing yet -/
abbrev emptyO (w : World) : Obj := { cls := .type "set", dict := none, data := .set #[] 0 (.fresh 0 0 (!w.params.followText "set-order")) }
section
variable {P : Program} {w : World} {A : Around} {E : Value → Shared → Prop}
set_option maxHeartbeats 0 in
theorem init_list {s : Shared} {S l : Addr} {items : Array Value} {ns : List Int} {R : Fin → Shared → Prop} {E' : Value → Shared → Prop} (hh : A.handled = none) (hS : s.heap.get? S = some (emptyO w)) (hl : s.heap.IsList l items) (hi : IntsAre items.toList ns) (hb : ns.length + 1 < scanBound)
    (h : ∀ (h' : Heap) (tk c : Nat), SetR w h' S (fun j => decide (j ∈ ns)) c → c ≤ ns.length → (∀ b o, b ≠ S → s.heap.get? b = some o → h'.get? b = some o) → R (.done (.ret .none)) { s with heap := h', toks := tk }) :
    wpAny (model P w) A (Builtin.«set.__init__» ⟨[.ref S, .ref l], []⟩) R E' s := by
  have hT : s.TypeIs (.ref S) "set" := ⟨_, hS, rfl⟩
  obtain ⟨ol, hol, hcl, nl, hdl⟩ := id hl
  obtain ⟨ocls, odict, odata, oslots⟩ := ol
  simp only at hcl hdl
  subst hcl; subst hdl
  have x1 := F.sub_list_set
  have x2 := F.sub_list_frozenset
  have x3 : (Value.type "list" == Value.type "dict") = false := by decide
  unfold Builtin.«set.__init__» noKeywords Builtin.Frozenset.updateFrom
  generalize hPI : pyIter = PI
  wp_walk
  subst hPI
  refine wpAny_pyIter_list hl ?_
  refine wpAny_bind (wpAny_runValue ?_)
  clear x1 x2 x3
  have hlt := Heap.lt_size hol
  have hSl := Heap.lt_size hS
  have hne : l ≠ s.heap.objs.size := Nat.ne_of_lt hlt
  have hlS : l ≠ S := fun z => by
    rw [z, hS] at hol
    have e : Value.type "set" = Value.type "list" := congrArg Obj.cls (Option.some.inj hol)
    exact absurd (Value.type.inj e) (by decide)
  have hsz : items.size = ns.length := by
    have q := IntsAre.length hi
    rw [Array.length_toList] at q
    exact q
  have hval : ∀ (i : Nat) (v : Value), items[i]? = some v → ∃ k t, ns[i]? = some k ∧ v = .int k t := fun i v hv => by
    have hi2 : i < ns.length := by rw [← hsz]; exact (Array.getElem?_eq_some_iff.mp hv).1
    obtain ⟨t, e⟩ := PyProof.Rows.IntsAre.int_at hi i v (by rw [Array.getElem?_toList]; exact hv)
    exact ⟨ns[i], t, List.getElem?_eq_getElem hi2, by rw [e, List.getD_eq_getElem?_getD, List.getElem?_eq_getElem hi2]; rfl⟩
  have hSf : S ∉ [s.heap.objs.size, l] := by
    simp only [List.mem_cons, List.mem_singleton, List.not_mem_nil, or_false, not_or]
    exact ⟨Nat.ne_of_lt hSl, fun z => hlS z.symm⟩
  refine set_update_ints ((Walks.list (by simp [hh]) _ l hne items).toS) S hSf ns hsz hb hval (items.size - 0) 0 _ (by omega) (Nat.zero_le _) ⟨⟨_, Heap.get?_push_size _ rfl, rfl, rfl⟩, hl.push _⟩ ⟨0, Nat.le_refl 0, setR_new_at (Heap.get?_push_of_some _ hS)⟩ ?hR
  intro s' c hm hc hS'
  obtain ⟨h', g2, d', tk', os'⟩ := s'
  have eg : g2 = s.gens := hm.gens
  have ed : d' = s.drawn := hm.drawn
  have eo : os' = s.os := hm.os
  subst eg; subst ed; subst eo
  show wpAny _ _ _ _ _ _
  refine wpAny_pure ?_
  show wpAny _ _ (ret Value.none) _ _ _
  refine wpAny_pure (h h' tk' c hS' (by rw [← hsz]; exact hc) fun b o hb e => ?_)
  have hb2 : b ≠ s.heap.objs.size := Nat.ne_of_lt (Heap.lt_size e)
  exact hm.heap b o (by simp only [List.mem_cons, List.mem_singleton, List.not_mem_nil, or_false, not_or]; exact ⟨hb, hb2⟩) (Heap.get?_push_of_some _ e)
set_option maxHeartbeats 0 in
/-- set(l) of a list of ints -/
theorem call_set_ints {s : Shared} {l : Addr} {items : Array Value} {ns : List Int} {Q : Value → Shared → Prop} (hh : A.handled = none) (hl : s.heap.IsList l items) (hi : IntsAre items.toList ns) (hb : ns.length + 1 < scanBound)
    (h : ∀ (h' : Heap) (tk c : Nat), SetR w h' s.heap.objs.size (fun j => decide (j ∈ ns)) c → c ≤ ns.length → (∀ b o, s.heap.get? b = some o → h'.get? b = some o) → Q (.ref s.heap.objs.size) { s with heap := h', toks := tk }) :
    wpAny (model P w) A (call (.type "set") [.ref l]) Q E s := by
  obtain ⟨c, tl, hmro⟩ := F.called_set.mro
  have hmade := F.called_set.made
  have hsub := F.called_set.sub
  refine wpAny_call (codeAny_of_tree ?_)
  show wpAny _ _ (callAny (.type "set") _) _ _ _
  refine wpAny_pure ⟨Code.quiet_builtin _ (by decide +kernel), codeAny_builtin F.entry_type_call ?_⟩
  rw [Around.under_plain (weight_type_call_type "set" [.ref l] []) rfl]
  have h1 := F.called_set.notType
  have h2 := F.called_set.canCreate
  have h3 := F.typeCall_set_1 (.ref l)
  repeat (any_goals (first | assumption | wp_step))
  refine codeAny_mono (code_set_led1 (.ref l) (E := E) (Q₁ := fun obj s₁ => obj = .ref s.heap.objs.size ∧ s₁ = { s with heap := s.heap.push (emptyO w) }) ⟨rfl, rfl⟩) fun r s₁ hr => ?_
  rcases r with e | fl
  · exact hr
  rcases fl with _ | _ | _ | obj
  all_goals first | exact hr.elim | skip
  obtain ⟨rfl, rfl⟩ := hr
  have hS : (s.heap.push (emptyO w)).get? s.heap.objs.size = some (emptyO w) := Heap.get?_push_size _ rfl
  have hT : Shared.TypeIs { s with heap := s.heap.push (emptyO w) } (.ref s.heap.objs.size) "set" := ⟨_, hS, rfl⟩
  have i1 := F.called_set.init.lookup
  have i2 := F.called_set.init.bind (.ref s.heap.objs.size)
  repeat (any_goals (first | assumption | wp_step))
  refine codeAny_mono (codeAny_call_builtin (R := wants (fun r s₂ => r = .none ∧ ∃ h' tk n, s₂ = { s with heap := h', toks := tk } ∧ SetR w h' s.heap.objs.size (fun j => decide (j ∈ ns)) n ∧ n ≤ ns.length ∧
      (∀ b o, s.heap.get? b = some o → h'.get? b = some o)) E) F.called_set.init.plain F.entry_set_init (check_set_init_1 hT ?_)) fun r₂ s₂ hr₂ => ?_
  · refine init_list (by simp [hh]) hS (hl.push _) hi hb fun h' tk n hn hc hk => ?_
    exact ⟨rfl, h', tk, n, rfl, hn, hc, fun b o e => hk b o (Nat.ne_of_lt (Heap.lt_size e)) (Heap.get?_push_of_some _ e)⟩
  · rcases r₂ with e | fl
    · exact hr₂
    rcases fl with _ | _ | _ | r
    all_goals first | exact hr₂.elim | skip
    obtain ⟨rfl, h', tk, n, rfl, hn, hc, hk⟩ := hr₂
    repeat (any_goals (first | assumption | wp_step))
    exact h _ _ _ hn hc hk
end
def rSetFromL (K : PySem.W.Frag) (w : World) : List V → Hp → VK → Prop := fun vs H Q => ∃ (l : Addr) (ns : List Int), vs = [.ref l] ∧ SqL K H l (ns.map V.int) ∧ ns.length ≤ 1000 ∧ ∀ a n, H a = none → n ≤ ns.length → Q (.ref a) (upd H a (SetO w a (fun k => decide (k ∈ ns)) n))
theorem cr_setL {X : Cx} (hc : X.calm = true) : CallR X (.type "set") (rSetFromL X.K X.w) := by
  intro pins s σ H vs us Q I r h
  obtain ⟨l, ns, rfl, hs, hl, q⟩ := h
  obtain rfl := Vals.ref1 r
  obtain ⟨its, rv, pl, hz⟩ := I.list hs
  refine call_set_ints (I.ok.hd hc) pl.isList (by simpa using ints_of_vals rv) (by unfold scanBound; omega) fun h' tk n R hn hk => ?_
  exact ⟨.ref _, upd H s.heap.objs.size (SetO X.w s.heap.objs.size (fun k => decide (k ∈ ns)) n), I.laid (t' := tk) hk (Nat.le_refl _) (setO_new R), rfl, q _ n (I.hok.fresh (Nat.le_refl _)) hn⟩
end L2
namespace AW
open PySem PySem.Spec PyProof.Rows L2 LamX
section
variable {c : Cw} {kn : Hp} {n : Nat} {σ : L2.St} {Q : V → Hp → Nat → Prop} {K : PySem.W.Frag} {w : World}
theorem r_setL {l : Addr} {ns : List Int} (h : kn l = some (.lst (ns.map V.int))) (hl : ns.length ≤ 1000) (q : ∀ a m, kn a = none → m ≤ ns.length → Q (.ref a) (upd kn a (SetO w a (fun k => decide (k ∈ ns)) m)) n) : W c (rSetFromL K w [.ref l]) kn n Q :=
  fun H g Q' k => ⟨l, ns, rfl, sql (g.ex _ _ h), hl, fun a m ha hm => k _ _ _ _ (q a m (g.free ha) hm) (g.new ha)⟩
theorem r_sortSet {a : Addr} {S : Int → Bool} {m : Nat} (h : kn a = some (SetO w a S m)) (hm : m < 64) (q : ∀ (ns : List Int) (p : Addr), ns.Pairwise (· < ·) → (∀ k : Int, k ∈ ns ↔ S k = true) → kn p = none → Q (.ref p) (upd kn p (.lst (ns.map V.int))) n) : W c (rSortedSet w [.ref a]) kn n Q :=
  fun H g Q' k => ⟨a, S, m, rfl, g.ex _ _ h, hm, fun ns p h1 h2 _ hp => k _ _ _ _ (q ns p h1 h2 (g.free hp)) (g.new hp)⟩
theorem w_ckw {r : List V → List V → Hp → VK → Prop} {t tk : TA} (h : W c (t σ) kn n fun vs kn1 n1 => W c (tk σ) kn1 n1 fun zs kn2 n2 => W c (r vs zs) kn2 n2 Q) : W c (tCKw r t tk σ) kn n Q :=
  fun H g Q' q => h H g _ fun vs kn1 n1 H1 h1 g1 => h1 H1 g1 _ fun zs kn2 n2 H2 h2 g2 => h2 H2 g2 Q' q
theorem r_maxDf {a : Addr} {ns : List Int} {d : V} (h : kn a = some (.lst (ns.map V.int))) (q0 : ns = [] → Q d kn n) (q : ∀ m, m ∈ ns → (∀ y, y ∈ ns → y ≤ m) → Q (.int m) kn n) : W c (rMaxDf K [.ref a] [d]) kn n Q :=
  fun H g Q' k => ⟨a, ns, d, rfl, rfl, sql (g.ex _ _ h), fun e => k _ _ _ _ (q0 e) g, fun m h1 h2 => k _ _ _ _ (q m h1 h2) g⟩
end
end AW

/-! try .. except C as n: .. except D: ..: the first clause takes all errors. -/
namespace L2
open PySem PySem.Spec PyProof.Rows
section
variable {X : Cx} {x n : Str} {c : Value} {i : Nat} {body suite : List Stmt} {b₀ : Stmt} {np pos pos' : Pos} {tb : WX → TS} {ts : Addr → Value → Option Addr → TS}
theorem ps_try_keepR {hds : List ExceptHandler} (hex : X.ex = []) (hs : X.stack = X.env :: X.outer) (hf : X.env.frame = some X.env.locals) (hN : X.N.Nodup) (hi : X.N[i]? = some n) (hln : X.env.kindOf n = some .local) (hc : Names X x c)
    (hb : ∀ (W : WX) (pn : List (Addr × Obj)) (xe : Value → Shared → Prop), Takes (X.tr pn xe) W → PassesOwn (model X.prog X.w) X.A X.env xe → PSs (X.tr pn xe) body (tb W))
    (hsu : ∀ (a : Addr) (oe : Obj) (cls : Value) (d : Option Addr) (pn : List (Addr × Obj)), Zc cls d oe → (∃ vs, oe.data = .fields vs) → PSs (X.suite a ((a, oe) :: pn)) (b₀ :: suite) (ts a cls d)) :
    PS X (.Try body (.ExceptHandler (some (.Name x np)) (some n) (b₀ :: suite) pos' :: hds) [] [] pos) (fun D σ H => tb (wKeep X.K c i ts D) D σ H) := by
  refine ⟨fun pins s σ H D I h => ?_⟩
  have ok := I.ok
  have frm : X.A.frames = some (X.env :: X.outer) := by rw [ok.frames, hs]
  refine wpAny_Try_except ?_
  refine wpAny_mono ((hb (wKeep X.K c i ts D) (X.pn ++ pins) (fun e s₁ => wpAny (model X.prog X.w) X.A (noteFrame e X.env) (fun _ s₂ => wpAny (model X.prog X.w) X.A (setFlight e none)
    (fun _ s₃ => wpAny (model X.prog X.w) X.A (handleBy e X.env (.ExceptHandler (some (.Name x np)) (some n) (b₀ :: suite) pos' :: hds)) (SP X pins D) X.xe s₃) X.xe s₂) X.xe s₁) (fun u s' xx => ?_) PassesOwn.looking).run [] s σ H D (I.toTry _) h) (fun f s1 hsp => ?_) (fun _ _ z => z)
  · obtain ⟨a, B, sI, pins', σ', H', cls, d, rfl, J', nb, up, sky, na, os, ag, hyes1, hyes⟩ := xx
    have J : Inv X pins σ' H' sI := J'.ofTry ok
    show wpAny (model X.prog X.w) X.A (noteFrame (.ref a) X.env) _ _ _
    refine Sky.land Zc.steady frm hf (show Sky B (X.env :: X.outer) a (Zc cls d) X.env.locals s'.heap by rw [← hs]; exact sky) fun h3 fl3 up3 => ?_
    have J3 : Inv X pins σ' H' { s' with heap := h3 } := J.landed nb fl3.1 (up.trans up3) os ag
    obtain ⟨oe3, vs3, he3, hz3, hd3⟩ := fl3.there
    have nfr : a ∉ frs (X.env :: X.outer) := fun hm => by
      obtain ⟨_, o', e', hnf⟩ := fl3.2.2.1.mem hm
      rw [he3] at e'
      cases e'
      exact hnf _ hd3
    have nL : a ≠ X.env.locals := fun z => nfr (List.mem_filterMap.mpr ⟨X.env, List.mem_cons_self, by rw [hf, z]⟩)
    have nF : a ∉ X.fs := fun hm => by
      obtain ⟨e, he, q⟩ := List.mem_filterMap.mp hm
      exact nfr (List.mem_filterMap.mpr ⟨e, List.mem_cons_of_mem _ he, q⟩)
    have inB : ∀ {b : Addr} {o : Obj}, sI.heap.get? b = some o → b ∉ frs X.stack → b ≠ a := fun {b o} e hb z => by
      have q := nb b o e hb
      rw [z, fl3.2.1] at q
      cases q
    have n0 : X.s_0.heap.get? a = none := by
      cases e : X.s_0.heap.get? a with
      | none => rfl
      | some o =>
        obtain ⟨o', e'⟩ := J.base.there a o e (by rw [hex]; exact fun z => nomatch z)
        exact absurd rfl (inB e' (by rw [hs]; exact nfr))
    have npin : ∀ p ∈ X.pn ++ pins, p.1 ≠ a := fun p hp => by
      obtain ⟨e, _, n1, n2, _⟩ := J.pin p hp
      exact inB e fun hm => (List.mem_cons.mp (J.stkSub _ hm)).elim n1 n2
    refine wpAny_handleBy_cons (codeAny_handlers_test ?_) (by intro q; cases q)
    have LT : PySem.W.Looks (model X.prog X.w) h3 (typeOf (.ref a)) cls := fun A Q E s k q => wpAny_typeOf_ref (k _ _ he3) (by rw [hz3.1]; exact q)
    have S3 := J3.suite he3 hd3 na nL nF
    have test : ∀ {Q : Value → Shared → Prop} {E : Value → Shared → Prop}, Q c { s' with heap := h3 } → wpAny (model X.prog X.w) (X.A.mark (some (.ref a))) (eval (.Name x np) X.env) Q E { s' with heap := h3 } := fun {Q E} q => by
      obtain ⟨g1, g2, g3 | ⟨g3, g4, g5⟩⟩ := hc
      · exact ld_glob (X := X.suite a ((a, oe3) :: (X.pn ++ pins))) S3 g1 g3 q g2
      · exact ld_blt (X := X.suite a ((a, oe3) :: (X.pn ++ pins))) S3 g1 g3 g4 q g5 g2
    refine test ((PySem.W.exm_one (M := model X.prog X.w) (J3.kIn) LT hyes1).here ?_)
    refine codeAny_handlers_suite_as ?_
    refine HandSPX.lands_againZ fl3 fun h4 fl4 up4 => ?_
    have J4 : Inv X pins σ' H' { s' with heap := h4 } := J.landed nb fl4.1 ((up.trans up3).trans up4) os ag
    obtain ⟨oe4, vs4, he4, hz4, hd4⟩ := fl4.there
    refine store_ok (X := X.suite a ((a, oe4) :: (X.pn ++ pins))) (v := .ref a) (J4.suite he4 hd4 na nL nF) hN hi (.inl hln) rfl (fun s5 S5 => ?_) (.inr hln)
    refine wpAny_mono ((hsu a oe4 cls d (X.pn ++ pins) hz4 ⟨_, hd4⟩).run [] s5 _ H' _ S5 (hyes a na)) (fun f s6 hsp => ?_) (fun _ _ z => False.elim z)
    have fin : ∀ {σ6 : St} {H6 : Hp} {Q : Shared → Prop}, Inv (X.suite a ((a, oe4) :: (X.pn ++ pins))) [] σ6 H6 s6 → (∀ s7, Inv X pins (σ6.set i none) (upd H6 a (exh a cls d)) s7 → Q s7) →
        wpAny (model X.prog X.w) X.A (do bindName X.env n .none; unbindBehindTheSuite X.env n pos') (fun _ s7 => Q s7) X.xe s6 := fun {σ6 H6 Q} S6 hq => gone_ok (S6.unsuiteK ok) hN hi hln fun s7 J7 => hq s7 (J7.track hd4 hz4 n0 npin)
    cases f with
    | ret u =>
      obtain ⟨v6, σ6, H6, S6, r6, q6⟩ := hsp
      exact fin S6 fun s7 J7 => ⟨_, _, _, J7, r6, q6⟩
    | next =>
      obtain ⟨σ6, H6, S6, q6⟩ := hsp
      exact fin S6 fun s7 J7 => ⟨_, _, J7, q6⟩
    | cont =>
      obtain ⟨σ6, H6, S6, q6⟩ := hsp
      exact fin S6 fun s7 J7 => ⟨_, _, J7, q6⟩
    | brk =>
      obtain ⟨σ6, H6, S6, q6⟩ := hsp
      exact fin S6 fun s7 J7 => ⟨_, _, J7, q6⟩
  · cases f with
    | ret u =>
      obtain ⟨v, σ', H', J', r, q⟩ := hsp
      exact ⟨v, σ', H', J'.ofTry ok, r, q⟩
    | next =>
      obtain ⟨σ', H', J', q⟩ := hsp
      exact wpAny_execs_nil ⟨σ', H', J'.ofTry ok, q⟩
    | cont =>
      obtain ⟨σ', H', J', q⟩ := hsp
      exact ⟨σ', H', J'.ofTry ok, q⟩
    | brk =>
      obtain ⟨σ', H', J', q⟩ := hsp
      exact ⟨σ', H', J'.ofTry ok, q⟩
end
end L2

/-! while; any(tuple); list.clear; sorted(list of ints); try .. except C as e (all errors taken) of a statement, its suite returns -/
namespace L2
open PySem PySem.Spec PyProof.Rows
def rAnyT (K : PySem.W.Frag) : List V → Hp → VK → Prop := fun vs H Q => ∃ (a : Addr) (bs : List Bool), vs = [V.ref a] ∧ SqT K H a (bs.map V.bl) ∧ Q (.bl (bs.any id)) H
theorem dpb : ∀ {K : PySem.W.Frag} {H : Hp} (bs : List Bool), DpAll K H (bs.map V.bl) (bs.map PyData.bool)
  | _, _, [] => .nil
  | _, _, b :: r => .cons (.bl b) (dpb r)
theorem plain_bls : ∀ bs : List Bool, PyData.plainAll (bs.map PyData.bool) = true
  | [] => by simp [PyData.plainAll]
  | b :: r => by simp only [List.map_cons, PyData.plainAll, PyData.plain, Bool.true_and]; exact plain_bls r
theorem any_bls (bs : List Bool) : (bs.map PyData.bool).any PyData.truthy = bs.any id := by
  rw [List.any_map]
  congr 1
theorem cr_anyT {X : Cx} (hc : X.calm = true) : CallR X (.builtin "any") (rAnyT X.K) := by
  intro pins s σ H vs us Q I r h
  obtain ⟨a, bs, rfl, hs, q⟩ := h
  obtain rfl := Vals.ref1 r
  obtain ⟨its, rv, pl, hz⟩ := I.tuple hs
  obtain ⟨as, hr⟩ := Dp.readsAll I _ _ _ (dpb bs) rv
  refine PySem.W.any_tuple_data (I.ok.hd hc) pl (by simpa using hr) (plain_bls bs) (fun x hx => ?_) fun h' tk hk => ?_
  · obtain ⟨b, _, rfl⟩ := List.mem_map.1 hx
    trivial
  · rw [any_bls]
    exact ⟨.bl _, H, I.kept hk, rfl, q⟩
end L2
namespace AW
open PySem PySem.Spec PyProof.Rows L2 LamX
section
variable {c : Cw} {kn : Hp} {n : Nat} {σ : L2.St} {Q : V → Hp → Nat → Prop} {K : PySem.W.Frag} {D : AE}
theorem r_anyT {a : Addr} {bs : List Bool} (h : kn a = some (.tup (bs.map V.bl))) (q : Q (.bl (bs.any id)) kn n) : W c (rAnyT K [.ref a]) kn n Q := fun H g _ k => ⟨a, bs, rfl, sqt (g.ex _ _ h), k _ kn n H q g⟩
theorem r_sortI {a : Addr} {ns : List Int} (h : kn a = some (.lst (ns.map V.int))) (q : ∀ (ns' : List Int) (p : Addr), ns'.Perm ns → ns'.Pairwise (· ≤ ·) → kn p = none → Q (.ref p) (upd kn p (.lst (ns'.map V.int))) n) : W c (rSortedI K [.ref a]) kn n Q :=
  fun H g Q' k => ⟨a, ns, rfl, sql (g.ex _ _ h), fun ns' p h1 h2 hp => k _ _ _ _ (q ns' p h1 h2 (g.free hp)) (g.new hp)⟩
theorem w_clear {i : Nat} {l : Addr} {xs : List V} (hv : σ[i]? = some (some (.ref l))) (h0 : kn l = some (.lst xs)) (q : Q .non (upd kn l (.lst [])) n) : W c (tBM0 K "list" rClear (tVar i) σ) kn n Q :=
  fun H g Q' k => ⟨.ref l, hv, .inl ⟨rfl, _, sql (g.ex _ _ h0)⟩, l, xs, rfl, rfl, g.ex _ _ h0, k _ _ _ _ q (g.put h0 rfl)⟩
/-- while: Pv what holds at each turn, its measure -/
theorem s_while {t : TT} {tb : TS} (Pv : Nat → L2.St → Hp → Nat → Prop) (m0 : Nat) (h0 : Pv m0 σ kn n)
    (h : ∀ m σ1 kn1 n1, Pv m σ1 kn1 n1 → W c (t σ1) kn1 n1 fun b kn2 n2 => if b = true then WS c tb { D with nx := fun σ3 kn3 n3 => ∃ m', m' < m ∧ Pv m' σ3 kn3 n3, ct := fun σ3 kn3 n3 => ∃ m', m' < m ∧ Pv m' σ3 kn3 n3, bk := D.nx } σ1 kn2 n2 else D.nx σ1 kn2 n2) :
    WS c (tWhile t tb) D σ kn n := fun H g D' f => by
  refine ⟨fun m σ1 H1 => ∃ kn1 n1, Pv m σ1 kn1 n1 ∧ Good c kn1 n1 H1, ⟨m0, kn, n, h0, g⟩, ?_⟩
  rintro m σ1 H1 ⟨kn1, n1, hp, g1⟩
  refine h m σ1 kn1 n1 hp H1 g1 _ fun b kn2 n2 H2 hb g2 => ?_
  cases b with
  | false => exact f.nx _ _ _ _ hb g2
  | true =>
    rw [if_pos rfl] at hb ⊢
    refine ⟨fun σ3 H3 => ∃ kn3 n3, (∃ m', m' < m ∧ Pv m' σ3 kn3 n3) ∧ Good c kn3 n3 H3, ?_, ?_⟩
    · rintro σ' H' ⟨kn3, n3, ⟨m', l, hp'⟩, g3⟩
      exact ⟨m', l, kn3, n3, hp', g3⟩
    · exact hb H2 g2 _ ⟨fun σ3 k3 n3 H3 z g3 => ⟨k3, n3, z, g3⟩, fun v k3 n3 H3 z g3 => f.rt _ _ _ _ z g3, fun σ3 k3 n3 H3 z g3 => f.nx _ _ _ _ z g3, fun σ3 k3 n3 H3 z g3 => ⟨k3, n3, z, g3⟩⟩
/-- an object laid where nothing stood, behind what changed nothing -/
theorem Good.lay {kn1 kn' H2 H' : Hp} {n1 m : Nat} {a : Addr} {o : HO} (g2 : AW.Good c kn1 n1 H2) (ha : H2 a = none) (e : Ext kn1 kn') (g' : AW.Good (pureC kn1 H2) kn' m H') : AW.Good c kn1 n1 (upd H' a o) := by
  refine ⟨fun x u hx => ?_, c.step n1 kn1 H2 (upd H' a o) g2.inv g2.res fun x u hx hk => ?_, g2.res, g2.nt⟩
  · rw [upd_ne (fun z => by have := g2.ex _ _ hx; rw [z, ha] at this; cases this)]
    exact g'.ex _ _ (e _ _ hx)
  · rw [upd_ne (fun z => by rw [z, ha] at hx; cases hx)]
    exact g'.inv x u hx hk
/-- try: a statement that may raise; the clause takes all its errors and its suite returns -/
theorem s_keep {cV : Value} {i m : Nat} {ts : Addr → Value → Option Addr → TS} {te : XK → TE} (EA : EAK)
    (h : ∀ E, ErrOk c EA E → W c (te E σ) kn n fun _ kn1 n1 => D.nx σ kn1 n1)
    (hx : ∀ cls d kn' n', EA cls d kn' n' → PySem.W.exmOne K cls cV = some true ∧ ∀ (σ' : L2.St) (a : Addr) (H' : Hp), σ'.length = m → kn' a = none →
      WS (pureC kn' H') (ts a cls d) { nx := fun _ _ _ => False, rt := fun v k _ => Ext kn' k ∧ D.rt v kn' n' } (σ'.set i (some (.ref a))) kn' 0) :
    WS c (fun De σ H => tDrop (te (fun cls d H' => ∀ σ' : L2.St, List.length σ' = m → wKeep K cV i ts De cls d σ' H')) De σ H) D σ kn n := fun H g D' f => by
  refine h _ (fun cls d kn' n' H' he g' => ?_) H g _ fun v kn1 n1 H1 h1 g1 => f.nx σ kn1 n1 H1 h1 g1
  intro σ' hl
  obtain ⟨h1, h2⟩ := hx cls d kn' n' he
  refine ⟨h1, fun a ha => ?_⟩
  refine h2 σ' a H' hl (g'.free ha) H' (pure_start g'.ex g'.nt) _ ⟨fun _ _ _ _ z _ => z.elim, fun v k m' H'' hr g'' => ?_, fun _ _ _ _ z _ => z.elim, fun _ _ _ _ z _ => z.elim⟩
  exact f.rt v kn' n' _ hr.2 (Good.lay g' ha hr.1 g'')
end
end AW

/-! C(.., k = v) at the abstract layer. -/
namespace L2
open PySem PySem.Spec PyProof.Rows
/-- o.m(k = v, ..), no positional argument -/
def tMethKW (C : Addr) (m : Str) (b : Nat) (sp : Sp) (gV : List V → List V → List V) (E : XK) (ta : TE) (tk : TA) : TE := fun σ H Q => ta σ H fun x H1 => ∃ a dx fs, x = .ref a ∧ H1 a = some (.ins C dx fs) ∧ fs.lookup m = none ∧ tk σ H1 fun zs H2 => zs.length = b ∧ sp (gV [x] zs) H2 Q E
section
variable {X : Cx} {CX : CXT} {k : Nat} {f C : Addr} {fd : FuncData} {ps ks : List Str} {sp : Sp} {E : XK} {m : Str} {apos pos : Pos} {o : Expr} {kws : List Keyword} {ta : TE} {tk : TA} {g : List Value → List Value → List Value} {gV : List V → List V → List V}
theorem pe_methKW {pl : Sem Bool} (he : PE X o ta) (c : Cls X.K C) (hm : Meth X.K C m f) (F : FnOk X.prog X.w X.K X.mg X.base CX k f fd ps sp) (hr : Room k X.A) (hb : KBn X.K fd ps 1 ks g gV) (hx : Passes CX X E) (hkw : PK X kws tk)
    (hall : (backToKw pos (keywordEach kws X.env)).all (·.1.isSome) = true := by rfl) (hks : (backToKw pos (keywordEach kws X.env)).filterMap (·.1) = ks := by rfl)
    (hpl : ((backTo pos (starEach [] X.env)).any (·.1) || (backToKw pos (keywordEach kws X.env)).any (·.1.isNone)) = false := by rfl)
    (ht : eval (.Call (.Attribute o m apos) [] kws pos) X.env = (do
      let ov ← eval o X.env
      standAt apos.atName
      let (fn, first) ← holding [ov] (getMethod ov m pl)
      callWith pos fn first (backTo pos (starEach [] X.env)) (backToKw pos (keywordEach kws X.env))) := by rfl) :
    PE X (.Call (.Attribute o m apos) [] kws pos) (tMethKW C m ks.length sp gV E ta tk) := by
  refine ⟨fun pins s σ H Q I h => ?_⟩
  refine PySem.W.methodCall_KW (pl := pl) (thn (he.run pins s σ H _ I h) fun u s1 ⟨x, H1, I1, rx, a, dx, fs, ex, ea, l, q⟩ => ?_) ht
  subst ex
  cases (show u = Value.ref a from rx)
  refine getmeth_ok I1 ea c hm l ?_
  refine PySem.W.callWith_KW0 (first := [.ref a]) (h₀ := X.base) I1.ok.mod.kin hm.kp hall ?_ hpl
  refine thn (hkw.run pos pins s1 σ H1 _ I1 q) fun ws s2 ⟨zs, H2, I2, rz, lz, q2⟩ => ⟨I2.kIn, ?_⟩
  rw [hks]
  have r1 : Vals [V.ref a] [Value.ref a] := .cons rfl .nil
  have lw : ws.length = ks.length := rz.length.symm.trans lz
  refine wpAny_call (codeAny_mono (F.run X.A X.stack s2 H2 ⟨[.ref a], ks.zip ws⟩ (g [.ref a] ws) (gV [.ref a] zs) Q E hr I2.env0 (hb.to s2 [.ref a] ws I2.kIn rfl lw) (hb.rel r1 rz) q2) fun r s' hq => ?_)
  cases r with
  | error e => exact hx pins σ H2 s2 e s' I2 hq
  | ok fl =>
    cases fl with
    | ret u => exact I2.after hq
    | next => exact False.elim hq
    | brk => exact False.elim hq
    | cont => exact False.elim hq
end
end L2
namespace AW
open PySem PySem.Spec PyProof.Rows L2
section
variable {c : Cw} {kn : Hp} {n : Nat} {σ : L2.St} {Q : V → Hp → Nat → Prop} {E : XK} {EA : EAK} {B : List V → Hp → AK → AXK → Prop} {C : Addr} {a b : Nat} {gV : List V → List V → List V} {t tk : TA}
theorem w_makeN (hm : MonoX B) (hE : ErrOk c EA E) (h : W c (t σ) kn n fun vs kn1 n1 => W c (tk σ) kn1 n1 fun zs kn2 n2 => vs.length = a ∧ zs.length = b ∧ ∀ x dx, kn2 x = none → kn2 dx = none → dx ≠ x →
    B (gV (.ref x :: vs) zs) (upd (upd kn2 dx (.own x)) x (.ins C dx [])) (fun v k => v = .non ∧ Q (.ref x) k n2) (fun cls d k => EA cls d k n2)) : W c (tMakeN C a b (liftX B) gV E t tk σ) kn n Q :=
  fun H g Q' q => h H g _ fun vs kn1 n1 H1 h1 g1 => h1 H1 g1 _ fun zs kn2 n2 H2 ⟨l1, l2, h2⟩ g2 => ⟨l1, l2, fun x dx hx hdx hne => by
    have hx2 : upd H2 dx (.own x) x = none := by rw [upd_ne (Ne.symm hne)]; exact hx
    exact sp_call (c := c) (n := n2) (Q := fun v k m => v = .non ∧ Q (.ref x) k m) hm hE (h2 x dx (g2.free hx) (g2.free hdx) hne) _ ((g2.new hdx).new hx2) (fun v H3 => v = .non ∧ Q' (.ref x) H3) fun v k m H3 hq g3 => ⟨hq.1, q _ _ _ _ hq.2 g3⟩⟩
theorem w_makeK (hm : MonoX B) (hE : ErrOk c EA E) (h : W c (t σ) kn n fun vs kn1 n1 => W c (tk σ) kn1 n1 fun zs kn2 n2 => vs.length = a ∧ zs.length = b ∧ ∀ x dx, kn2 x = none → kn2 dx = none → dx ≠ x →
    B (gV (.ref x :: vs) zs) (upd (upd kn2 dx (.own x)) x (.ins C dx [])) (fun v k => v = .non ∧ Q (.ref x) k n2) (fun cls d k => EA cls d k n2)) : W c (tMakeK C a b (liftX B) gV E t tk σ) kn n Q :=
  fun H g Q' q => h H g _ fun vs kn1 n1 H1 h1 g1 => h1 H1 g1 _ fun zs kn2 n2 H2 ⟨l1, l2, h2⟩ g2 => ⟨l1, l2, fun x dx hx hdx hne => by
    have hx2 : upd H2 dx (.own x) x = none := by rw [upd_ne (Ne.symm hne)]; exact hx
    exact sp_call (c := c) (n := n2) (Q := fun v k m => v = .non ∧ Q (.ref x) k m) hm hE (h2 x dx (g2.free hx) (g2.free hdx) hne) _ ((g2.new hdx).new hx2) (fun v H3 => v = .non ∧ Q' (.ref x) H3) fun v k m H3 hq g3 => ⟨hq.1, q _ _ _ _ hq.2 g3⟩⟩
theorem w_methKW {m : Str} {ta : TE} (hm : MonoX B) (hE : ErrOk c EA E) (h : W c (ta σ) kn n fun x kn1 n1 => ∃ a dx fs, x = .ref a ∧ kn1 a = some (.ins C dx fs) ∧ fs.lookup m = none ∧
    W c (tk σ) kn1 n1 fun zs kn2 n2 => zs.length = b ∧ B (gV [.ref a] zs) kn2 (fun v k => Q v k n2) (fun cls d k => EA cls d k n2)) : W c (tMethKW C m b (liftX B) gV E ta tk σ) kn n Q :=
  fun H g Q' q => h H g _ fun x kn1 n1 H1 h1 g1 => by
    obtain ⟨a, dx, fs, rfl, ha, hl, h2⟩ := h1
    exact ⟨a, dx, fs, rfl, g1.ex _ _ ha, hl, h2 H1 g1 _ fun zs kn2 n2 H2 ⟨lz, h3⟩ g2 => ⟨lz, sp_call hm hE h3 H2 g2 Q' q⟩⟩
end
end AW

/-! A classmethod called with keywords. -/
namespace L2
open PySem PySem.Spec PyProof.Rows ClX
def tCMethKW (C : Addr) (n : Nat) (sp : Sp) (gV : List V → List V → List V) (E : XK) (ta : TE) (tk : TA) : TE := fun σ H Q => ta σ H fun x H1 => x = .ref C ∧ tk σ H1 fun zs H2 => zs.length = n ∧ sp (gV [.ref C] zs) H2 Q E
section
variable {X : Cx} {CX : CXT} {k : Nat} {g C p : Addr} {mc : Value} {m : Str} {fd : FuncData} {ps ks : List Str} {sp : Sp} {E : XK} {o : Expr} {kws : List Keyword} {pos apos : Pos} {ta : TE} {tk : TA} {pl : Sem Bool} {pins : List (Addr × Obj)} {σ : St} {H : Hp} {s : Shared} {gq : List Value → List Value → List Value} {gV : List V → List V → List V}
theorem getcm_ok {A : Around} {E : Value → Shared → Prop} {Q : Value × List Value → Shared → Prop} (I : Inv X pins σ H s) (r : CRead X.K C mc) (c : CMet X.K C mc m p g) (h : ∀ q s', Inv X ((q, PySem.W.methodObj (.ref g) (.ref C)) :: pins) σ H s' → X.base.get? q = none → Q (.ref q, []) s') : wpAny (model X.prog X.w) A (getMethod (.ref C) m pl) Q E s := by
  obtain ⟨rest, hp⟩ := c.rc
  exact PySem.W.method_cls I.kIn r.ga (PySem.W.cls_bind I.kIn r.rd c.at_ (wpAny_call (PySem.W.cm_get (s := { s with toks := s.toks + 1 }) I.kIn hp (PySem.W.handed_on rfl (h _ _ (met_new I) (base_none I (Nat.le_refl _)))))))
theorem pe_cmethKW (he : PE X o ta) (r : CRead X.K C mc) (c : CMet X.K C mc m p g) (F : FnOk X.prog X.w X.K X.mg X.base CX k g fd ps sp) (hr : Room k X.A) (hb : KBn X.K fd ps 1 ks gq gV) (hx : Passes CX X E) (hkw : PK X kws tk)
    (hall : (backToKw pos (keywordEach kws X.env)).all (·.1.isSome) = true := by rfl) (hks : (backToKw pos (keywordEach kws X.env)).filterMap (·.1) = ks := by rfl)
    (hpl : ((backTo pos (starEach [] X.env)).any (·.1) || (backToKw pos (keywordEach kws X.env)).any (·.1.isNone)) = false := by rfl)
    (ht : eval (.Call (.Attribute o m apos) [] kws pos) X.env = (do
      let ov ← eval o X.env
      standAt apos.atName
      let (fn, first) ← holding [ov] (getMethod ov m pl)
      callWith pos fn first (backTo pos (starEach [] X.env)) (backToKw pos (keywordEach kws X.env))) := by rfl) :
    PE X (.Call (.Attribute o m apos) [] kws pos) (tCMethKW C ks.length sp gV E ta tk) := by
  refine ⟨fun pins s σ H Q I h => ?_⟩
  refine PySem.W.methodCall_KW (pl := pl) (thn (he.run pins s σ H _ I h) fun u s1 ⟨x, H1, I1, rx, ex, q⟩ => ?_) ht
  subst ex
  obtain rfl : u = Value.ref C := rx
  refine getcm_ok I1 r c fun qa s2 I2 hbase => ?_
  refine PySem.W.callWith_of (P := fun h => PySem.W.MethP X.K qa g (.ref C) h) hpl (PySem.W.keeps_M c.fi) ?_
  refine evalArgs_kw_nil hall (thn (hkw.run pos _ s2 σ H1 _ I2 q) fun ws s3 ⟨zs, H2, I3, rz, lz, q2⟩ => ⟨⟨pin_at I3, I3.kIn⟩, ?_⟩)
  rw [hks]
  have r1 : Vals [V.ref C] [Value.ref C] := .cons rfl .nil
  have lw : ws.length = ks.length := rz.length.symm.trans lz
  refine wpAny_mono (Q := EP X ((qa, PySem.W.methodObj (.ref g) (.ref C)) :: pins) σ Q) (wpAny_call (PySem.W.method_call (pin_at I3) (codeAny_mono (F.run X.A X.stack s3 H2 ⟨[.ref C], ks.zip ws⟩ (gq [.ref C] ws) (gV [.ref C] zs) Q E hr I3.env0 (hb.to s3 [.ref C] ws I3.kIn rfl lw) (hb.rel r1 rz) q2) fun r s' hq => ?_))) (fun v s' hv => unpinE hv) (fun _ _ z => z)
  cases r with
  | error e => exact hx _ σ H2 s3 e s' I3 hq
  | ok fl =>
    cases fl with
    | ret u => exact I3.after hq
    | next => exact False.elim hq
    | brk => exact False.elim hq
    | cont => exact False.elim hq
end
end L2
namespace AW
open PySem PySem.Spec L2 ClX
theorem w_cmethKW {c : Cw} {kn : Hp} {n m : Nat} {σ : L2.St} {Q : V → Hp → Nat → Prop} {E : XK} {EA : EAK} {B : List V → Hp → AK → AXK → Prop} {C : Addr} {gV : List V → List V → List V} {ta : TE} {tk : TA} (hm : MonoX B) (hE : ErrOk c EA E)
    (h : W c (ta σ) kn n fun x kn1 n1 => x = .ref C ∧ W c (tk σ) kn1 n1 fun zs kn2 n2 => zs.length = m ∧ B (gV [.ref C] zs) kn2 (fun v k => Q v k n2) (fun cls d k => EA cls d k n2)) : W c (tCMethKW C m (liftX B) gV E ta tk σ) kn n Q :=
  fun H g Q' q => h H g _ fun x kn1 n1 H1 ⟨e, h1⟩ g1 => ⟨e, h1 H1 g1 _ fun vs kn2 n2 H2 ⟨l, h2⟩ g2 => ⟨l, sp_call hm hE h2 H2 g2 Q' q⟩⟩
end AW

/-! try: .. except (A, B): raise C(..) from None -/
namespace L2H
open PySem PySem.Spec PyProof.Rows L2 HotX
abbrev pairO (c1 c2 : Value) : Obj := { cls := .type "tuple", data := .seq [c1, c2].toArray }
def wOnly2 (K : PySem.W.Frag) (c1 c2 : Value) (ts : Addr → Value → Option Addr → TS) (Wout : WX) (D : Ends) : WX := fun cls d σ H =>
  ∃ b, PySem.W.exmAny K cls [c1, c2] = some b ∧ (b = true → ∀ a, H a = none → ts a cls d D σ H) ∧ (b = false → Wout cls d σ H)
def wPass2 (K : PySem.W.Frag) (c1 c2 : Value) (Wout : WX) : WX := fun cls d σ H => PySem.W.exmAny K cls [c1, c2] = some false ∧ Wout cls d σ H
theorem push_slots {h : Heap} {c1 c2 : Value} : h.UpToSlots (h.push (pairO c1 c2)) := fun b o hb _ => ⟨o.slots, Heap.get?_push_of_some _ hb⟩
theorem flying_push {h B : Heap} {l : List Env} {a : Addr} {Z : Obj → Prop} {c1 c2 : Value} (x : HandSPX.FlyingZ B l a Z h) : HandSPX.FlyingZ B l a Z (h.push (pairO c1 c2)) := by
  obtain ⟨k1, k2, k3, oe, vs, T, oT, ts, he, hz, hd, h1, hn, hT, gT, dT, h3⟩ := x
  have kp : ∀ b o, h.get? b = some o → (h.push (pairO c1 c2)).get? b = some o := fun b o e => Heap.get?_push_of_some _ e
  exact ⟨fun b o e => kp _ _ (k1 b o e), k2, k3.of_keeps fun b o hb _ => ⟨o, kp _ _ hb, rfl⟩, oe, vs, T, oT, ts, kp _ _ he, hz, hd, h1, hn, hT, kp _ _ gT, dT, h3⟩
section
variable {X : Cx} {x y : Str} {c1 c2 : Value} {body suite : List Stmt} {b₀ : Stmt} {np np2 tpos pos pos' : Pos} {tk1 : Nat} {tb : WX → TS} {ts : Addr → Value → Option Addr → TS} {Wout : WX}
theorem ps_try_pairX (stk : X.stack = X.env :: X.outer) (frm : X.env.frame = some X.env.locals) (hc : Names X x c1) (hc2 : Names X y c2) (goes : ∀ hd : Option Value, PassesOwnAt (model X.prog X.w) (X.A.mark hd) X.A X.env X.xe) (tk : L2.Takes X Wout)
    (hb : ∀ (W : WX) (pn : List (Addr × Obj)) (xe : Value → Shared → Prop), L2N.Takes (X.tr pn xe) W → L2.Takes (X.tr pn xe) (wPass2 X.K c1 c2 Wout) → PassesOwn (model X.prog X.w) X.A X.env xe → PSs (X.tr pn xe) body (tb W))
    (hsu : ∀ (a : Addr) (oe : Obj) (cls : Value) (d : Option Addr) (pn : List (Addr × Obj)), L2N.Zn cls d oe → (∃ vs, oe.data = .fields vs) → L2.Takes (suiteX X a ((a, oe) :: pn)) Wout → HotC (suiteX X a ((a, oe) :: pn)) →
      PSs (suiteX X a ((a, oe) :: pn)) (b₀ :: suite) (ts a cls d))
    (hst : ∀ p, backTo p (starEach [.Name x np, .Name y np2] X.env) = [(false, eval (.Name x np) X.env), (false, eval (.Name y np2) X.env)]) :
    PS X (.Try body [.ExceptHandler (some (.Tuple [.Name x np, .Name y np2] tk1 tpos)) none (b₀ :: suite) pos'] [] [] pos) (fun D σ H => tb (wOnly2 X.K c1 c2 ts Wout D) D σ H) := by
  refine ⟨fun pins s σ H D I h => ?_⟩
  have ok := I.ok
  have hfr : X.A.frames = some (X.env :: X.outer) := by rw [ok.frames, stk]
  have offFr : ∀ {B h : Heap} {a : Addr} {o : Obj} {vs : Array Value}, h.FunFrames B (X.env :: X.outer) → h.get? a = some o → o.data = .fields vs → a ∉ frs (X.env :: X.outer) := fun {B h a o vs} ff e dd hm => by
    obtain ⟨_, o', e', hnf⟩ := ff.mem hm
    rw [e] at e'; cases e'
    exact hnf _ dd
  have away : ∀ {a : Addr} {B : Heap} {sI s' : Shared} {σ' : L2.St} {H' : Hp} {cls : Value} {d : Option Addr} {hA : Heap}, Inv X pins σ' H' sI → (∀ b o, sI.heap.get? b = some o → b ∉ frs X.stack → B.get? b = some o) → sI.heap.UpToSlots hA →
      HandSPX.FlyingZ B (X.env :: X.outer) a (Zc cls d) hA → H' a = none → s'.os = sI.os → AllBare s'.gens → Wout cls d σ' H' → wpAny (model X.prog X.w) X.A (handleBy (.ref a) X.env []) (SP X pins D) X.xe { s' with heap := hA } := by
    intro a B sI s' σ' H' cls d hA J old ups fy3 gone sys bare w
    refine wpAny_handleBy_nil ?_
    obtain ⟨k1, k2, k3, oe, vs, T, oT, ts', he, hz, hd, h1, hr⟩ := id fy3
    unfold PySem.passOn
    refine wpAny_bind (wpAny_field he hd h1 ?_)
    rw [if_neg (show ¬ ((Value.ref T == Value.none) = true) from by simp)]
    have fin : wpAny (model X.prog X.w) X.A (setFlight (.ref a) X.env.frame) (fun _ s4 => wpAny (model X.prog X.w) X.A (throw (.ref a) : Sem Flow) (SP X pins D) X.xe s4) X.xe { s' with heap := hA } := by
      rw [frm]
      refine HandSPX.setFlight_upZ fy3 fun hB hh4 ut4 => wpAny_throw (tk _ _ ?_)
      exact ⟨a, B, sI, pins, σ', H', cls, d, rfl, J, old, ups.trans ut4, .inr (.inr (by rw [stk]; exact hh4)), gone, sys, bare, w⟩
    first
      | exact wpAny_bind (wpAny_pure (wpAny_bind fin))
      | exact wpAny_bind fin
  refine wpAny_Try_except ?_
  refine wpAny_mono ((hb (wOnly2 X.K c1 c2 ts Wout D) (X.pn ++ pins) (fun e s₁ => wpAny (model X.prog X.w) X.A (noteFrame e X.env) (fun _ s₂ => wpAny (model X.prog X.w) X.A (setFlight e none) (fun _ s₃ =>
    wpAny (model X.prog X.w) X.A (handleBy e X.env [.ExceptHandler (some (.Tuple [.Name x np, .Name y np2] tk1 tpos)) none (b₀ :: suite) pos']) (SP X pins D) X.xe s₃) X.xe s₂) X.xe s₁) (fun u s' air => ?_) (fun u s' air => ?_) PassesOwn.looking).run [] s σ H D (I.toTry _) h) (fun f s1 done => ?_) (fun e s1 he => he)
  · -- an exception whose context is None
    obtain ⟨a, B, sI, pins', σ', H', cls, d, rfl, I2', old, ups, sk1, gone, sys, bare, b, mat, onY, onN⟩ := air
    have J : Inv X pins σ' H' sI := I2'.ofTry ok
    have sk2 : Sky B (X.env :: X.outer) a (L2N.Zn cls d) X.env.locals s'.heap := by rw [← stk]; exact sk1
    show wpAny (model X.prog X.w) X.A (noteFrame (.ref a) X.env) _ _ _
    refine L2N.Sky.land L2N.Zn.steady hfr frm sk2 fun hA fy3 ut3 => ?_
    have Ia : Inv X pins σ' H' { s' with heap := hA } := J.landed old fy3.1 (ups.trans ut3) sys bare
    obtain ⟨ob3, us3, ge3, ze3, de3⟩ := fy3.there
    have offS : a ∉ frs (X.env :: X.outer) := offFr fy3.2.2.1 ge3 de3
    have offL : a ≠ X.env.locals := fun z => offS (List.mem_filterMap.mpr ⟨X.env, List.mem_cons_self, by rw [frm, z]⟩)
    have offF : a ∉ X.fs := fun hm => by
      obtain ⟨e, he, q⟩ := List.mem_filterMap.mp hm
      exact offS (List.mem_filterMap.mpr ⟨e, List.mem_cons_of_mem _ he, q⟩)
    have Sa := Ia.suite ge3 de3 gone offL offF
    refine wpAny_handleBy_cons (codeAny_handlers_test ?_) (by intro q; cases q)
    have test : ∀ {z : Str} {zp : Pos} {v : Value} {Q : Value → Shared → Prop} {E : Value → Shared → Prop}, Names X z v → Q v { s' with heap := hA } → wpAny (model X.prog X.w) (X.A.mark (some (.ref a))) (eval (.Name z zp) X.env) Q E { s' with heap := hA } := fun {z zp v Q E} nz q => by
      obtain ⟨hg, hdbg, hm | ⟨hm, hv, hnn⟩⟩ := nz
      · exact ld_glob (X := X.suite a ((a, ob3) :: (X.pn ++ pins))) Sa hg hm q hdbg
      · exact ld_blt (X := X.suite a ((a, ob3) :: (X.pn ++ pins))) Sa hg hm hv q hnn hdbg
    have kp : ∀ b o, hA.get? b = some o → (hA.push (pairO c1 c2)).get? b = some o := fun b o e => Heap.get?_push_of_some _ e
    have fy3 := flying_push (c1 := c1) (c2 := c2) fy3
    have ut3 := ut3.trans (push_slots (c1 := c1) (c2 := c2))
    have Ic : Inv X pins σ' H' { s' with heap := hA.push (pairO c1 c2) } := J.landed old fy3.1 (ups.trans ut3) sys bare
    have LT : PySem.W.Looks (model X.prog X.w) (hA.push (pairO c1 c2)) (typeOf (.ref a)) cls := fun A Q E s k q => wpAny_typeOf_ref (k _ _ (kp _ _ ge3)) (by rw [ze3.1]; exact q)
    have LM := PySem.W.exm_tup2 (M := model X.prog X.w) (tp := hA.objs.size) (Ic.kIn) LT (Heap.get?_push_size _ rfl) mat
    refine wpAny_Tuple_spliced ?_
    rw [hst]
    refine Calls.spliced_cons (test hc (Calls.spliced_cons (test hc2 (Calls.spliced_nil ⟨show 2 ≤ sizeLine by rw [sizeLine_eq]; decide, ?_⟩))))
    refine LM.here ?_
    cases b with
    | true =>
      refine codeAny_handlers_suite ?_
      refine HandSPX.lands_againZ fy3 fun hB fy4 ut4 => ?_
      have Ib : Inv X pins σ' H' { s' with heap := hB } := J.landed old fy4.1 ((ups.trans ut3).trans ut4) sys bare
      obtain ⟨ob4, us4, ge4, ze4, de4⟩ := fy4.there
      have Sb := Ib.suite ge4 de4 gone offL offF
      have takS : L2.Takes (suiteX X a ((a, ob4) :: (X.pn ++ pins))) Wout := fun u2 s2 x2 => by
        obtain ⟨b2, D2, tI2, pt2, σ2, H2, ct2, dt2, e2, I2, nz2, uz2, kz2, mz2, oz2, az2, wz2⟩ := x2
        exact tk u2 s2 ⟨b2, D2, tI2, pins, σ2, H2, ct2, dt2, e2, unsuiteX I2 ok, nz2, uz2, kz2, mz2, oz2, az2, wz2⟩
      have hot : HotC (suiteX X a ((a, ob4) :: (X.pn ++ pins))) := ⟨(a, ob4), ⟨rfl, us4, de4, ze4.2.2 us4 de4⟩, List.mem_cons_self⟩
      refine wpAny_mono ((hsu a ob4 cls d (X.pn ++ pins) ze4 ⟨_, de4⟩ takS hot).run [] _ _ H' _ (suiteX_of Sb) (onY rfl a gone)) (fun f sZ done => ?_) (fun eZ sZ z => goes (some (.ref a)) eZ sZ z)
      cases f with
      | next =>
        obtain ⟨σ6, H6, Sc, q6⟩ := done
        exact ⟨_, _, unsuiteX Sc ok, q6⟩
      | brk =>
        obtain ⟨σ6, H6, Sc, q6⟩ := done
        exact ⟨_, _, unsuiteX Sc ok, q6⟩
      | cont =>
        obtain ⟨σ6, H6, Sc, q6⟩ := done
        exact ⟨_, _, unsuiteX Sc ok, q6⟩
      | ret u =>
        obtain ⟨v6, σ6, H6, Sc, r6, q6⟩ := done
        exact ⟨_, _, _, unsuiteX Sc ok, r6, q6⟩
    | false =>
      show wpAny _ X.A (handleBy (.ref a) X.env []) _ _ _
      exact away J old (ups.trans ut3) (flyingZ_imp (fun o z => z.zc) fy3) gone sys bare (onN rfl)
  · -- any other: the clause doesn't name it
    obtain ⟨a, B, sI, pins', σ', H', cls, d, rfl, I2', old, ups, sk1, gone, sys, bare, mat, onN⟩ := air
    have J : Inv X pins σ' H' sI := I2'.ofTry ok
    have sk2 : Sky B (X.env :: X.outer) a (Zc cls d) X.env.locals s'.heap := by rw [← stk]; exact sk1
    show wpAny (model X.prog X.w) X.A (noteFrame (.ref a) X.env) _ _ _
    refine L2.Sky.land Zc.steady hfr frm sk2 fun hA fy3 ut3 => ?_
    have Ia : Inv X pins σ' H' { s' with heap := hA } := J.landed old fy3.1 (ups.trans ut3) sys bare
    obtain ⟨ob3, us3, ge3, ze3, de3⟩ := fy3.there
    have offS : a ∉ frs (X.env :: X.outer) := offFr fy3.2.2.1 ge3 de3
    have offL : a ≠ X.env.locals := fun z => offS (List.mem_filterMap.mpr ⟨X.env, List.mem_cons_self, by rw [frm, z]⟩)
    have offF : a ∉ X.fs := fun hm => by
      obtain ⟨e, he, q⟩ := List.mem_filterMap.mp hm
      exact offS (List.mem_filterMap.mpr ⟨e, List.mem_cons_of_mem _ he, q⟩)
    have Sa := Ia.suite ge3 de3 gone offL offF
    refine wpAny_handleBy_cons (codeAny_handlers_test ?_) (by intro q; cases q)
    have test : ∀ {z : Str} {zp : Pos} {v : Value} {Q : Value → Shared → Prop} {E : Value → Shared → Prop}, Names X z v → Q v { s' with heap := hA } → wpAny (model X.prog X.w) (X.A.mark (some (.ref a))) (eval (.Name z zp) X.env) Q E { s' with heap := hA } := fun {z zp v Q E} nz q => by
      obtain ⟨hg, hdbg, hm | ⟨hm, hv, hnn⟩⟩ := nz
      · exact ld_glob (X := X.suite a ((a, ob3) :: (X.pn ++ pins))) Sa hg hm q hdbg
      · exact ld_blt (X := X.suite a ((a, ob3) :: (X.pn ++ pins))) Sa hg hm hv q hnn hdbg
    have kp : ∀ b o, hA.get? b = some o → (hA.push (pairO c1 c2)).get? b = some o := fun b o e => Heap.get?_push_of_some _ e
    have fy3 := flying_push (c1 := c1) (c2 := c2) fy3
    have ut3 := ut3.trans (push_slots (c1 := c1) (c2 := c2))
    have Ic : Inv X pins σ' H' { s' with heap := hA.push (pairO c1 c2) } := J.landed old fy3.1 (ups.trans ut3) sys bare
    have LT : PySem.W.Looks (model X.prog X.w) (hA.push (pairO c1 c2)) (typeOf (.ref a)) cls := fun A Q E s k q => wpAny_typeOf_ref (k _ _ (kp _ _ ge3)) (by rw [ze3.1]; exact q)
    have LM := PySem.W.exm_tup2 (M := model X.prog X.w) (tp := hA.objs.size) (Ic.kIn) LT (Heap.get?_push_size _ rfl) mat
    refine wpAny_Tuple_spliced ?_
    rw [hst]
    refine Calls.spliced_cons (test hc (Calls.spliced_cons (test hc2 (Calls.spliced_nil ⟨show 2 ≤ sizeLine by rw [sizeLine_eq]; decide, ?_⟩))))
    refine LM.here ?_
    show wpAny _ X.A (handleBy (.ref a) X.env []) _ _ _
    exact away J old (ups.trans ut3) fy3 gone sys bare onN
  · cases f with
    | next =>
      obtain ⟨σ', H', I2', q⟩ := done
      exact wpAny_execs_nil ⟨σ', H', I2'.ofTry ok, q⟩
    | brk =>
      obtain ⟨σ', H', I2', q⟩ := done
      exact ⟨σ', H', I2'.ofTry ok, q⟩
    | cont =>
      obtain ⟨σ', H', I2', q⟩ := done
      exact ⟨σ', H', I2'.ofTry ok, q⟩
    | ret u =>
      obtain ⟨v, σ', H', I2', r, q⟩ := done
      exact ⟨v, σ', H', I2'.ofTry ok, r, q⟩
end
end L2H

/-! Marks that come round: the least period, the least start. Pure. -/
namespace Ln
def ix (t : List Bool) (i : Nat) : Bool := t.getD i false
theorem ix_lt {t : List Bool} {i : Nat} (h : i < t.length) : ix t i = t[i] := by
  unfold ix
  rw [List.getD_eq_getElem?_getD, List.getElem?_eq_getElem h]; rfl
theorem ext_ix {a b : List Bool} (hl : a.length = b.length) (h : ∀ i, i < a.length → ix a i = ix b i) : a = b := by
  apply List.ext_getElem hl
  intro i h1 h2
  rw [← ix_lt h1, ← ix_lt h2]
  exact h i h1
def turned (t : List Bool) (k : Nat) : List Bool := t.drop k ++ t.take k
theorem turned_len (t : List Bool) (k : Nat) : (turned t k).length = t.length := by
  unfold turned
  rw [List.length_append, List.length_drop, List.length_take]
  omega
theorem ix_turned {t : List Bool} {k i : Nat} (hk : k ≤ t.length) (hi : i < t.length) : ix (turned t k) i = ix t (if i + k < t.length then i + k else i + k - t.length) := by
  unfold turned ix
  rw [List.getD_eq_getElem?_getD, List.getD_eq_getElem?_getD]
  by_cases h : i + k < t.length
  · rw [if_pos h, List.getElem?_append_left (by rw [List.length_drop]; omega), List.getElem?_drop, Nat.add_comm k i]
  · rw [if_neg h, List.getElem?_append_right (by rw [List.length_drop]; omega), List.length_drop, List.getElem?_take, if_pos (by omega)]
    congr 2
    omega
/-- what comes round by k, a divisor -/
def Per (t : List Bool) (k : Nat) : Prop := ∀ i, i < t.length → ix t i = ix t (i % k)
theorem per_of_turned {t : List Bool} {k : Nat} (hk : 0 < k) (hkl : k ≤ t.length) (h : turned t k = t) : Per t k := by
  intro i
  induction i using Nat.strongRecOn with
  | _ i ih =>
    intro hi
    by_cases hik : i < k
    · rw [Nat.mod_eq_of_lt hik]
    · have e : ix (turned t k) (i - k) = ix t (i - k) := by rw [h]
      rw [ix_turned hkl (by omega), if_pos (by omega), Nat.sub_add_cancel (by omega)] at e
      rw [e, ih (i - k) (by omega) (by omega)]
      congr 1
      rw [Nat.mod_eq_sub_mod (by omega : i ≥ k)]
theorem turned_of_per {t : List Bool} {k : Nat} (hk : 0 < k) (hkl : k ≤ t.length) (hd : t.length % k = 0) (h : Per t k) : turned t k = t := by
  apply ext_ix (turned_len t k)
  rw [turned_len]
  intro i hi
  rw [ix_turned hkl hi]
  by_cases h2 : i + k < t.length
  · rw [if_pos h2, h _ h2, h _ hi, Nat.add_mod_right]
  · rw [if_neg h2, h _ (by omega), h _ hi]
    congr 1
    obtain ⟨m, hm⟩ := Nat.dvd_of_mod_eq_zero hd
    have h3 : t.length ≤ i + k := by omega
    have : i + k - t.length = i + k - k * m := by rw [hm]
    rw [this]
    rw [Nat.sub_mul_mod (by omega), Nat.add_mod_right]
/-- the least period -/
def isP (t : List Bool) (k : Nat) : Bool := decide (1 ≤ k) && decide (t.length % k = 0) && decide (turned t k = t)
def leastP (t : List Bool) : Nat := ((List.range t.length).find? (isP t)).getD t.length
theorem leastP_cases (t : List Bool) : (leastP t = t.length ∧ ∀ k, k < t.length → isP t k = false) ∨ (leastP t < t.length ∧ isP t (leastP t) = true ∧ ∀ k, k < leastP t → isP t k = false) := by
  unfold leastP
  cases h : (List.range t.length).find? (isP t) with
  | none =>
    left
    refine ⟨rfl, fun k hk => ?_⟩
    have := List.find?_eq_none.1 h k (List.mem_range.2 hk)
    simpa using this
  | some k =>
    right
    rw [List.find?_range_eq_some] at h
    refine ⟨List.mem_range.1 h.2.1, h.1, fun j hj => ?_⟩
    have := h.2.2 j hj
    simpa using this
theorem leastP_le (t : List Bool) : leastP t ≤ t.length := by
  rcases leastP_cases t with h | h <;> omega
theorem leastP_pos {t : List Bool} (h : 0 < t.length) : 0 < leastP t := by
  rcases leastP_cases t with ⟨e, _⟩ | ⟨_, p, _⟩
  · omega
  · unfold isP at p
    simp at p
    omega
theorem leastP_per {t : List Bool} (h : 0 < t.length) : t.length % leastP t = 0 ∧ Per t (leastP t) := by
  rcases leastP_cases t with ⟨e, _⟩ | ⟨l, p, _⟩
  · rw [e]
    exact ⟨Nat.mod_self _, fun i hi => by rw [Nat.mod_eq_of_lt hi]⟩
  · unfold isP at p
    simp at p
    exact ⟨p.1.2, per_of_turned (by omega) (by omega) p.2⟩
theorem leastP_min {t : List Bool} {k : Nat} (h1 : 1 ≤ k) (h2 : k < leastP t) (h3 : t.length % k = 0) (h : Per t k) : False := by
  have hk : isP t k = true := by
    unfold isP
    have := leastP_le t
    rw [turned_of_per (by omega) (by omega) h3 h]
    simp [h1, h3]
  rcases leastP_cases t with ⟨e, f⟩ | ⟨l, p, f⟩
  · rw [f k (by omega)] at hk; cases hk
  · rw [f k h2] at hk; cases hk
theorem ix_take {t : List Bool} {n i : Nat} (h : i < n) : ix (t.take n) i = ix t i := by
  unfold ix
  rw [List.getD_eq_getElem?_getD, List.getD_eq_getElem?_getD, List.getElem?_take, if_pos h]
/-- the first round comes round by no less -/
theorem leastP_take {t : List Bool} (h : 0 < t.length) : leastP (t.take (leastP t)) = leastP t := by
  have hle := leastP_le t
  have hp := leastP_pos h
  have hl : (t.take (leastP t)).length = leastP t := by rw [List.length_take]; omega
  obtain ⟨d, p⟩ := leastP_per h
  rcases leastP_cases (t.take (leastP t)) with ⟨e, _⟩ | ⟨l, q, _⟩
  · rw [e, hl]
  · exfalso
    rw [hl] at l
    have p2 := leastP_per (t := t.take (leastP t)) (by omega)
    have q1 := leastP_pos (t := t.take (leastP t)) (by omega)
    generalize leastP (t.take (leastP t)) = k at l q p2 q1
    rw [hl] at p2
    refine leastP_min (t := t) (k := k) q1 l ?_ ?_
    · obtain ⟨a, ha⟩ := Nat.dvd_of_mod_eq_zero d
      obtain ⟨b, hb⟩ := Nat.dvd_of_mod_eq_zero p2.1
      have hd : k ∣ t.length := ⟨b * a, by rw [ha]; generalize leastP t = L at hb; subst hb; rw [Nat.mul_assoc]⟩
      exact Nat.mod_eq_zero_of_dvd hd
    · intro i hi
      have hm : i % leastP t < leastP t := Nat.mod_lt _ hp
      have e1 : ix t i = ix t (i % leastP t) := p i hi
      have e2 : ix t (i % leastP t) = ix (t.take (leastP t)) (i % leastP t) := (ix_take hm).symm
      have e3 := p2.2 (i % leastP t) (by rw [hl]; exact hm)
      have e4 : i % leastP t % k = i % k := Nat.mod_mod_of_dvd i (Nat.dvd_of_mod_eq_zero p2.1)
      have e5 : ix (t.take (leastP t)) (i % k) = ix t (i % k) := ix_take (Nat.lt_trans (Nat.mod_lt _ q1) l)
      rw [e1, e2, e3, e4, e5]
/-- numbers that are marked -/
def idx (t : List Bool) : List Nat := (List.range t.length).filter (ix t)
def maskOf (n : Nat) (xs : List Nat) : List Bool := (List.range n).map fun i => decide (i ∈ xs)
theorem mask_len (n : Nat) (xs : List Nat) : (maskOf n xs).length = n := by simp [maskOf]
theorem ix_mask {n i : Nat} {xs : List Nat} (h : i < n) : ix (maskOf n xs) i = decide (i ∈ xs) := by
  unfold ix maskOf
  rw [List.getD_eq_getElem?_getD, List.getElem?_map, List.getElem?_range h]
  rfl
theorem mem_idx {t : List Bool} {i : Nat} : i ∈ idx t ↔ i < t.length ∧ ix t i = true := by
  unfold idx
  rw [List.mem_filter, List.mem_range]
theorem mask_idx (t : List Bool) : maskOf t.length (idx t) = t := by
  apply ext_ix (mask_len _ _)
  rw [mask_len]
  intro i hi
  rw [ix_mask hi]
  cases h : ix t i with
  | true => exact decide_eq_true (mem_idx.2 ⟨hi, h⟩)
  | false => exact decide_eq_false fun z => by rw [(mem_idx.1 z).2] at h; cases h
theorem idx_inj {a b : List Bool} (hl : a.length = b.length) (h : idx a = idx b) : a = b := by
  rw [← mask_idx a, ← mask_idx b, hl, h]
/-- the least start -/
def astray (near turn : List Bool) (s : Nat) : List Nat := (List.range near.length).filter fun i => ix near i != ix turn (i % s)
def beginOf (near turn : List Bool) (s : Nat) : Nat := match (astray near turn s).getLast? with | some m => m + 1 | none => 0
theorem sorted_range_filter (p : Nat → Bool) (n : Nat) : ((List.range n).filter p).Pairwise (· < ·) := (List.pairwise_lt_range).filter p
theorem last_max {l : List Nat} (h : l.Pairwise (· < ·)) {m : Nat} (hm : l.getLast? = some m) : m ∈ l ∧ ∀ x ∈ l, x ≤ m := by
  obtain ⟨ys, rfl⟩ := List.getLast?_eq_some_iff.1 hm
  refine ⟨by simp, fun x hx => ?_⟩
  rcases List.mem_append.1 hx with h1 | h1
  · exact Nat.le_of_lt ((List.pairwise_append.1 h).2.2 x h1 m (by simp))
  · rw [List.mem_singleton.1 h1]
    exact Nat.le_refl _
theorem begin_spec (near turn : List Bool) (s : Nat) : beginOf near turn s ≤ near.length ∧ (∀ i, beginOf near turn s ≤ i → i < near.length → ix near i = ix turn (i % s)) ∧ (0 < beginOf near turn s → ix near (beginOf near turn s - 1) ≠ ix turn ((beginOf near turn s - 1) % s)) := by
  unfold beginOf
  have hs := sorted_range_filter (fun i => ix near i != ix turn (i % s)) near.length
  cases h : (astray near turn s).getLast? with
  | none =>
    have e : astray near turn s = [] := List.getLast?_eq_none_iff.1 h
    refine ⟨Nat.zero_le _, fun i _ hi => ?_, fun z => absurd z (by decide)⟩
    by_cases q : ix near i = ix turn (i % s)
    · exact q
    · have : i ∈ astray near turn s := List.mem_filter.2 ⟨List.mem_range.2 hi, by simpa using q⟩
      rw [e] at this
      cases this
  | some m =>
    obtain ⟨h1, h2⟩ := last_max hs h
    have h3 := List.mem_filter.1 h1
    dsimp only
    refine ⟨List.mem_range.1 h3.1, fun i hi hl => ?_, fun _ => by simpa using h3.2⟩
    by_cases q : ix near i = ix turn (i % s)
    · exact q
    · have := h2 i (List.mem_filter.2 ⟨List.mem_range.2 hl, by simpa using q⟩)
      omega
theorem begin_uni {near turn : List Bool} {s b : Nat} (h1 : b ≤ near.length) (h2 : ∀ i, b ≤ i → i < near.length → ix near i = ix turn (i % s)) (h3 : 0 < b → ix near (b - 1) ≠ ix turn ((b - 1) % s)) : beginOf near turn s = b := by
  obtain ⟨g1, g2, g3⟩ := begin_spec near turn s
  rcases Nat.lt_trichotomy (beginOf near turn s) b with h | h | h
  · exact absurd (g2 (b - 1) (by omega) (by omega)) (h3 (by omega))
  · exact h
  · exact absurd (h2 (beginOf near turn s - 1) (by omega) (by omega)) (g3 (by omega))
/-- a least form -/
structure Form (nr tn : List Bool) : Prop where
  pos : 0 < tn.length
  per : leastP tn = tn.length
  beg : 0 < nr.length → ix nr (nr.length - 1) ≠ ix tn ((nr.length - 1) % tn.length)
  le : nr.length + tn.length ≤ 400
theorem form_of {near turn : List Bool} (h : 0 < turn.length) (hl : beginOf near turn (leastP turn) + leastP turn ≤ 400) : Form (near.take (beginOf near turn (leastP turn))) (turn.take (leastP turn)) := by
  have hp := leastP_pos h
  have hle := leastP_le turn
  obtain ⟨g1, g2, g3⟩ := begin_spec near turn (leastP turn)
  have l1 : (near.take (beginOf near turn (leastP turn))).length = beginOf near turn (leastP turn) := by rw [List.length_take]; omega
  have l2 : (turn.take (leastP turn)).length = leastP turn := by rw [List.length_take]; omega
  refine ⟨by omega, by rw [leastP_take h, l2], fun z => ?_, by omega⟩
  rw [l1] at z ⊢
  rw [l2, ix_take (by omega), ix_take (Nat.mod_lt _ hp)]
  exact g3 z
/-- a form told by itself -/
theorem form_again {nr tn : List Bool} (F : Form nr tn) : leastP tn = tn.length ∧ beginOf nr tn tn.length = nr.length := by
  refine ⟨F.per, begin_uni (Nat.le_refl _) (fun i h1 h2 => by omega) F.beg⟩
/-- a finite form: one round of one that is not marked -/
theorem form_fin {nr tn : List Bool} (F : Form nr tn) (h : idx tn = []) : tn = [false] := by
  have hall : ∀ i, i < tn.length → ix tn i = false := fun i hi => by
    cases q : ix tn i with
    | false => rfl
    | true => have := mem_idx.2 ⟨hi, q⟩; rw [h] at this; cases this
  have h1 : tn.length = 1 := by
    rcases Nat.lt_or_ge 1 tn.length with g | g
    · exfalso
      refine leastP_min (t := tn) (k := 1) (by omega) (by rw [F.per]; exact g) (Nat.mod_one _) fun i hi => ?_
      rw [hall i hi, Nat.mod_one, hall 0 (by omega)]
    · have := F.pos; omega
  apply ext_ix (by rw [h1]; rfl)
  intro i hi
  rw [hall i hi]
  have : i = 0 := by omega
  subst this
  rfl
theorem form_fin_begin {nr : List Bool} (F : Form nr [false]) : beginOf (maskOf 400 (idx nr)) [false] 1 = nr.length ∧ (maskOf 400 (idx nr)).take nr.length = nr := by
  have le : nr.length + 1 ≤ 400 := F.le
  refine ⟨begin_uni (by rw [mask_len]; omega) (fun i h1 h2 => ?_) (fun z => ?_), ?_⟩
  · rw [mask_len] at h2
    rw [ix_mask h2, Nat.mod_one]
    refine decide_eq_false fun z => ?_
    have := (mem_idx.1 z).1
    omega
  · have := F.beg z
    rw [ix_mask (by omega)]
    have q : ix nr (nr.length - 1) = true := by
      cases q : ix nr (nr.length - 1) with
      | true => rfl
      | false => exact absurd (by rw [q]; simp [Nat.mod_one, ix]) this
    rw [decide_eq_true (mem_idx.2 ⟨by omega, q⟩), Nat.mod_one]
    simp [ix]
  · apply ext_ix (by rw [List.length_take, mask_len]; omega)
    intro i hi
    rw [List.length_take, mask_len] at hi
    rw [ix_take (by omega), ix_mask (by omega)]
    cases h : ix nr i with
    | true => exact decide_eq_true (mem_idx.2 ⟨by omega, h⟩)
    | false => exact decide_eq_false fun z => by rw [(mem_idx.1 z).2] at h; cases h
/-- the marks below start and of the first round from it on -/
def marks (nr tn : List Bool) : List Bool := nr ++ (List.range tn.length).map fun i => ix tn ((nr.length + i) % tn.length)
theorem marks_len (nr tn : List Bool) : (marks nr tn).length = nr.length + tn.length := by simp [marks]
theorem marks_inj {nr tn nr' tn' : List Bool} (h : 0 < tn.length) (hb : nr.length = nr'.length) (e : marks nr tn = marks nr' tn') : nr = nr' ∧ tn = tn' := by
  have hl := congrArg List.length e
  rw [marks_len, marks_len] at hl
  have ht : tn.length = tn'.length := by omega
  obtain ⟨e1, e2⟩ := List.append_inj e hb
  refine ⟨e1, ?_⟩
  rw [← ht, ← hb] at e2
  apply ext_ix ht
  intro i hi
  have key : ∀ j, j < tn.length → ix tn ((nr.length + j) % tn.length) = ix tn' ((nr.length + j) % tn.length) := fun j hj => by
    have := List.map_inj_left.1 e2 j (List.mem_range.2 hj)
    exact this
  -- j with (b + j) % s = i
  have hm : nr.length % tn.length < tn.length := Nat.mod_lt _ h
  by_cases hc : nr.length % tn.length ≤ i
  · have := key (i - nr.length % tn.length) (by omega)
    have q : (nr.length + (i - nr.length % tn.length)) % tn.length = i := by
      rw [Nat.add_mod, Nat.mod_eq_of_lt (show i - nr.length % tn.length < tn.length by omega)]
      rw [show nr.length % tn.length + (i - nr.length % tn.length) = i by omega, Nat.mod_eq_of_lt hi]
    rw [q] at this
    exact this
  · have := key (i + tn.length - nr.length % tn.length) (by omega)
    have q : (nr.length + (i + tn.length - nr.length % tn.length)) % tn.length = i := by
      rw [Nat.add_mod, Nat.mod_eq_of_lt (show i + tn.length - nr.length % tn.length < tn.length by omega)]
      rw [show nr.length % tn.length + (i + tn.length - nr.length % tn.length) = i + tn.length by omega, Nat.add_mod_right, Nat.mod_eq_of_lt hi]
    rw [q] at this
    exact this
end Ln

/-! Texts of sets of lengths. Pure. -/
namespace L2
open PySem PySem.Spec
namespace Tx1
open TL Ln SX
abbrev spS : Str := S [32]
abbrev fromS : Str := S [102, 114, 111, 109]
abbrev byS : Str := S [98, 121]
abbrev atS : Str := S [97, 116]
abbrev noneS : Str := S [110, 111, 110, 101]
abbrev nS (n : Nat) : Str := dS ((n : Nat) : Int)
theorem nS_tl (n : Nat) : tl (nS n) = numL n := dS_nat n
theorem nS_dig (n : Nat) : ∀ c ∈ tl (nS n), 48 ≤ c ∧ c ≤ 57 := by
  intro c hc
  by_cases h1 : 48 ≤ c
  · by_cases h2 : c ≤ 57
    · exact ⟨h1, h2⟩
    · exact absurd hc (dS_free (by omega) (by omega) _)
  · by_cases h3 : c = 45
    · subst h3
      rw [nS_tl] at hc
      exact absurd hc (numL_no45 n)
    · exact absurd hc (dS_free h3 (by omega) _)
theorem nS_inj {a b : Nat} (h : nS a = nS b) : a = b := by
  have := dS_inj h
  omega
theorem nS_ne {n : Nat} {x : Str} {c : Nat} (hc : c ∈ tl x) (h : c < 48 ∨ 57 < c) : nS n ≠ x := fun z => by
  have := nS_dig n c (by rw [z]; exact hc)
  omega
theorem nS_from (n : Nat) : nS n ≠ fromS := nS_ne (c := 102) (by decide) (by decide)
theorem nS_none (n : Nat) : nS n ≠ noneS := nS_ne (c := 110) (by decide) (by decide)
def tailW (nr tn : List Bool) : List Str := if idx tn = [] then [] else fromS :: nS nr.length :: byS :: nS tn.length :: atS :: (idx tn).map nS
def wordsT (nr tn : List Bool) : List Str := (idx nr).map nS ++ tailW nr tn
def lnT (nr tn : List Bool) : Str := if wordsT nr tn = [] then noneS else Txt.join spS (wordsT nr tn)
theorem words_free (nr tn : List Bool) : ∀ p ∈ wordsT nr tn, ¬ 32 ∈ tl p := by
  have hn : ∀ n : Nat, ¬ 32 ∈ tl (nS n) := fun n h => by have := nS_dig n 32 h; omega
  intro p hp
  rcases List.mem_append.1 hp with h | h
  · obtain ⟨n, _, rfl⟩ := List.mem_map.1 h
    exact hn n
  · unfold tailW at h
    split at h
    · cases h
    · simp only [List.mem_cons] at h
      rcases h with rfl | rfl | rfl | rfl | rfl | h
      · decide
      · exact hn _
      · decide
      · exact hn _
      · decide
      · obtain ⟨n, _, rfl⟩ := List.mem_map.1 h
        exact hn n
theorem split_words {ws : List Str} (hne : ws ≠ []) (h : ∀ p ∈ ws, ¬ 32 ∈ tl p) : Txt.split (Txt.join spS ws) spS = ws := split_join (s := 32) (S := []) rfl (by decide +kernel) hne h
theorem split_lnT {nr tn : List Bool} (h : wordsT nr tn ≠ []) : Txt.split (lnT nr tn) spS = wordsT nr tn := by
  unfold lnT
  rw [if_neg h]
  exact split_words h (words_free nr tn)
theorem lnT_ne_none {nr tn : List Bool} (h : wordsT nr tn ≠ []) : lnT nr tn ≠ noneS := fun z => by
  have e := split_lnT h
  rw [z, show Txt.split noneS spS = [noneS] by decide +kernel] at e
  unfold wordsT at e
  cases hi : idx nr with
  | cons n r =>
    rw [hi] at e
    simp only [List.map_cons, List.cons_append] at e
    exact nS_none n (List.cons.inj e).1.symm
  | nil =>
    rw [hi] at e
    unfold tailW at e
    split at e
    · cases e
    · exact absurd (List.cons.inj e).1 (by decide)
theorem words_nil {nr tn : List Bool} (F : Form nr tn) (h : wordsT nr tn = []) : nr = [] ∧ tn = [false] := by
  unfold wordsT at h
  obtain ⟨h1, h2⟩ := List.append_eq_nil_iff.1 h
  have h3 : idx tn = [] := by
    unfold tailW at h2
    split at h2
    · assumption
    · cases h2
  have h4 := form_fin F h3
  subst h4
  refine ⟨?_, rfl⟩
  have e := (form_fin_begin F)
  rw [List.map_eq_nil_iff] at h1
  rw [h1] at e
  have e1 : beginOf (maskOf 400 []) [false] 1 = nr.length := e.1
  have e2 : beginOf (maskOf 400 []) [false] 1 = 0 := begin_uni (Nat.zero_le _) (fun i _ hi => by rw [mask_len] at hi; rw [ix_mask hi, Nat.mod_one]; simp [ix]) (fun z => absurd z (by decide))
  exact List.length_eq_zero_iff.1 (by omega)
theorem not_from {xs : List Nat} : ¬ fromS ∈ xs.map nS := fun h => by
  obtain ⟨n, _, e⟩ := List.mem_map.1 h
  exact nS_from n e
theorem map_nS_inj {xs ys : List Nat} (h : xs.map nS = ys.map nS) : xs = ys := List.map_inj_right (f := nS) (fun _ _ => nS_inj) |>.1 h
theorem cut_at {α : Type} {x : α} : ∀ {A A' R R' : List α}, ¬ x ∈ A → ¬ x ∈ A' → A ++ x :: R = A' ++ x :: R' → A = A' ∧ R = R'
  | [], [], _, _, _, _, e => ⟨rfl, (List.cons.inj e).2⟩
  | [], b :: B, _, _, _, h, e => absurd (by rw [(List.cons.inj e).1]; exact .head _) h
  | a :: A, [], _, _, h, _, e => absurd (by rw [← (List.cons.inj e).1]; exact .head _) h
  | a :: A, b :: B, _, _, h, h', e => by
    obtain ⟨e1, e2⟩ := List.cons.inj e
    obtain ⟨r1, r2⟩ := cut_at (fun z => h (.tail _ z)) (fun z => h' (.tail _ z)) e2
    exact ⟨by rw [e1, r1], r2⟩
theorem lnT_inj {nr tn nr' tn' : List Bool} (F : Form nr tn) (G : Form nr' tn') (h : lnT nr tn = lnT nr' tn') : nr = nr' ∧ tn = tn' := by
  by_cases h1 : wordsT nr tn = []
  · by_cases h2 : wordsT nr' tn' = []
    · obtain ⟨a, b⟩ := words_nil F h1
      obtain ⟨c, d⟩ := words_nil G h2
      exact ⟨a.trans c.symm, b.trans d.symm⟩
    · have := lnT_ne_none h2
      rw [← h] at this
      exact absurd (by unfold lnT; rw [if_pos h1]) this
  · by_cases h2 : wordsT nr' tn' = []
    · have := lnT_ne_none h1
      rw [h] at this
      exact absurd (by unfold lnT; rw [if_pos h2]) this
    · have e : wordsT nr tn = wordsT nr' tn' := by rw [← split_lnT h1, ← split_lnT h2, h]
      unfold wordsT tailW at e
      by_cases i1 : idx tn = []
      · rw [if_pos i1, List.append_nil] at e
        by_cases i2 : idx tn' = []
        · rw [if_pos i2, List.append_nil] at e
          have e := map_nS_inj e
          have t1 := form_fin F i1
          have t2 := form_fin G i2
          subst t1
          subst t2
          refine ⟨?_, rfl⟩
          obtain ⟨a1, a2⟩ := form_fin_begin F
          obtain ⟨b1, b2⟩ := form_fin_begin G
          rw [← a2, ← b2, ← a1, ← b1, e]
        · rw [if_neg i2] at e
          exact absurd (by rw [e]; simp) (not_from (xs := idx nr))
      · rw [if_neg i1] at e
        by_cases i2 : idx tn' = []
        · rw [if_pos i2, List.append_nil] at e
          exact absurd (by rw [← e]; simp) (not_from (xs := idx nr'))
        · rw [if_neg i2] at e
          obtain ⟨e1, e2⟩ := cut_at not_from not_from e
          have f1 := nS_inj (List.cons.inj e2).1
          have e3 := (List.cons.inj (List.cons.inj e2).2).2
          have f2 := nS_inj (List.cons.inj e3).1
          have e4 := (List.cons.inj (List.cons.inj e3).2).2
          exact ⟨idx_inj f1 (map_nS_inj e1), idx_inj f2 (map_nS_inj e4)⟩
end Tx1
end L2

/-! Lengths: which numbers are in; the same numbers are one form. -/
namespace Ln
def inL (nr tn : List Bool) (x : Int) : Bool := if x < 0 then false else if x < (nr.length : Int) then ix nr x.toNat else ix tn (x % (tn.length : Int)).toNat
theorem inL_neg {nr tn : List Bool} {x : Int} (h : x < 0) : inL nr tn x = false := by unfold inL; rw [if_pos h]
theorem inL_nat {nr tn : List Bool} (n : Nat) : inL nr tn (n : Int) = if n < nr.length then ix nr n else ix tn (n % tn.length) := by
  unfold inL
  rw [if_neg (by omega)]
  by_cases h : n < nr.length
  · rw [if_pos h, if_pos (by omega), Int.toNat_natCast]
  · rw [if_neg h, if_neg (by omega), ← Int.natCast_emod, Int.toNat_natCast]
theorem ix_marks_lo {nr tn : List Bool} {i : Nat} (h : i < nr.length) : ix (marks nr tn) i = ix nr i := by
  unfold ix marks
  rw [List.getD_eq_getElem?_getD, List.getElem?_append_left h, ← List.getD_eq_getElem?_getD]
theorem ix_marks_hi {nr tn : List Bool} {m : Nat} (h : m < tn.length) : ix (marks nr tn) (nr.length + m) = ix tn ((nr.length + m) % tn.length) := by
  unfold ix marks
  rw [List.getD_eq_getElem?_getD, List.getElem?_append_right (by omega), Nat.add_sub_cancel_left, List.getElem?_map, List.getElem?_range h]
  rfl
theorem mod_nat (x : Int) {s : Nat} (h : 0 < s) : ∃ m : Nat, x % (s : Int) = m ∧ m < s := by
  have h0 := Int.emod_nonneg x (show (s : Int) ≠ 0 by omega)
  have h1 := Int.emod_lt_of_pos x (show (0 : Int) < s by omega)
  exact ⟨(x % (s : Int)).toNat, by omega, by omega⟩
theorem hi_eq {b s m : Nat} {i : Int} (h : (i - (b : Int)) % (s : Int) = m) : (b + m) % s = (i % (s : Int)).toNat := by
  have e : (((b + m) % s : Nat) : Int) = i % (s : Int) := by
    rw [Int.natCast_emod, Int.natCast_add, ← h, Int.add_emod_emod]
    congr 1
    omega
  omega
theorem inL_form {near turn : List Bool} (h : 0 < turn.length) (n : Nat) : inL (near.take (beginOf near turn (leastP turn))) (turn.take (leastP turn)) (n : Int) = if n < near.length then ix near n else ix turn (n % turn.length) := by
  obtain ⟨b1, b2, b3⟩ := begin_spec near turn (leastP turn)
  obtain ⟨p1, p2⟩ := leastP_per h
  have ple := leastP_le turn
  have pp := leastP_pos h
  rw [inL_nat, List.length_take, List.length_take, Nat.min_eq_left b1, Nat.min_eq_left ple]
  generalize leastP turn = s at *
  generalize beginOf near turn s = b at *
  have hm := Nat.mod_lt n pp
  by_cases h1 : n < b
  · rw [if_pos h1, if_pos (by omega), ix_take h1]
  · rw [if_neg h1, ix_take hm]
    by_cases h2 : n < near.length
    · rw [if_pos h2, b2 n (by omega) h2]
    · rw [if_neg h2, p2 (n % turn.length) (Nat.mod_lt _ h), Nat.mod_mod_of_dvd _ (Nat.dvd_of_mod_eq_zero p1)]
/-! ### periods of all numbers -/
def Prd (f : Nat → Bool) (p : Nat) : Prop := ∀ n, f (n + p) = f n
theorem Prd.mul {f : Nat → Bool} {p : Nat} (h : Prd f p) (n : Nat) : ∀ k, f (n + k * p) = f n
  | 0 => by rw [Nat.zero_mul]; rfl
  | k + 1 => by rw [Nat.succ_mul, ← Nat.add_assoc, h, h.mul n k]
theorem Prd.mul' {f : Nat → Bool} {p : Nat} (h : Prd f p) (k : Nat) : Prd f (k * p) := fun n => h.mul n k
theorem Prd.dvd {f : Nat → Bool} {p q : Nat} (h : Prd f p) (d : p ∣ q) : Prd f q := by
  obtain ⟨k, rfl⟩ := d
  rw [Nat.mul_comm]
  exact h.mul' k
theorem Prd.gcd {f : Nat → Bool} {p q : Nat} : Prd f p → Prd f q → Prd f (Nat.gcd p q) := by
  induction p, q using Nat.gcd.induction with
  | H0 n => intro _ h; rw [Nat.gcd_zero_left]; exact h
  | H1 m n hm ih =>
    intro h k
    rw [Nat.gcd_rec]
    refine ih (fun x => ?_) h
    rw [← h.mul (x + n % m) (n / m), Nat.add_assoc, show n % m + n / m * m = n by rw [Nat.mul_comm]; exact Nat.mod_add_div n m, k]
theorem Prd.mod {f : Nat → Bool} {p : Nat} (h : Prd f p) (n : Nat) : f (n % p) = f n := by
  have := h.mul (n % p) (n / p)
  rw [Nat.mul_comm, Nat.mod_add_div] at this
  exact this.symm
theorem prd_tail (t : List Bool) : Prd (fun n => ix t (n % t.length)) t.length := fun n => by
  dsimp only
  rw [Nat.add_mod_right]
theorem len_of_prd {t : List Bool} (pos : 0 < t.length) (per : leastP t = t.length) {q : Nat} (hq : 0 < q) (h : Prd (fun n => ix t (n % t.length)) q) : t.length ∣ q := by
  have g := Prd.gcd (prd_tail t) h
  have gd := Nat.gcd_dvd_left t.length q
  have gq := Nat.gcd_dvd_right t.length q
  have gp : 0 < Nat.gcd t.length q := Nat.gcd_pos_of_pos_left _ pos
  have gl := Nat.le_of_dvd pos gd
  rcases Nat.lt_or_ge (Nat.gcd t.length q) t.length with z | z
  · exfalso
    refine leastP_min (t := t) gp (by rw [per]; exact z) (Nat.mod_eq_zero_of_dvd gd) fun i hi => ?_
    have e := g.mod i
    have hm := Nat.mod_lt i gp
    rw [Nat.mod_eq_of_lt hi, Nat.mod_eq_of_lt (show i % Nat.gcd t.length q < t.length by omega)] at e
    exact e.symm
  · have : Nat.gcd t.length q = t.length := by omega
    rw [this] at gq
    exact gq
theorem form_uniq {nr tn nr' tn' : List Bool} (F : Form nr tn) (G : Form nr' tn') (h : ∀ n : Nat, inL nr tn (n : Int) = inL nr' tn' (n : Int)) : nr = nr' ∧ tn = tn' := by
  have f1 := F.pos; have g1 := G.pos
  have all : ∀ n, ix tn (n % tn.length) = ix tn' (n % tn'.length) := by
    intro n
    have P := (prd_tail tn).mul' tn'.length
    have P' := (prd_tail tn').mul' tn.length
    have e1 := P.mul n (nr.length + nr'.length)
    have e2 := P'.mul n (nr.length + nr'.length)
    rw [Nat.mul_comm tn.length] at e2
    have big : nr.length + nr'.length ≤ n + (nr.length + nr'.length) * (tn'.length * tn.length) := by
      have : 1 ≤ tn'.length * tn.length := Nat.mul_pos g1 f1
      have := Nat.mul_le_mul_left (nr.length + nr'.length) this
      omega
    have e := h (n + (nr.length + nr'.length) * (tn'.length * tn.length))
    rw [inL_nat, inL_nat, if_neg (by omega), if_neg (by omega), e1, e2] at e
    exact e
  have P2 : Prd (fun n => ix tn (n % tn.length)) tn'.length := fun n => by
    dsimp only
    rw [all, all, Nat.add_mod_right]
  have P3 : Prd (fun n => ix tn' (n % tn'.length)) tn.length := fun n => by
    dsimp only
    rw [← all, ← all, Nat.add_mod_right]
  have hl : tn.length = tn'.length := Nat.dvd_antisymm (len_of_prd f1 F.per g1 P2) (len_of_prd g1 G.per f1 P3)
  have ht : tn = tn' := ext_ix hl fun i hi => by
    have := all i
    rw [Nat.mod_eq_of_lt hi, Nat.mod_eq_of_lt (by omega)] at this
    exact this
  subst ht
  have hb : nr.length = nr'.length := by
    rcases Nat.lt_trichotomy nr.length nr'.length with z | z | z
    · exfalso
      have e := h (nr'.length - 1)
      rw [inL_nat, inL_nat, if_neg (by omega), if_pos (by omega)] at e
      exact G.beg (by omega) e.symm
    · exact z
    · exfalso
      have e := h (nr.length - 1)
      rw [inL_nat, inL_nat, if_pos (by omega), if_neg (by omega)] at e
      exact F.beg (by omega) e
  refine ⟨ext_ix hb fun i hi => ?_, rfl⟩
  have e := h i
  rw [inL_nat, inL_nat, if_pos hi, if_pos (by omega)] at e
  exact e
theorem inL_add {nr tn : List Bool} {n L : Nat} (h : nr.length ≤ n) (d : tn.length ∣ L) : inL nr tn ((n + L : Nat) : Int) = inL nr tn (n : Int) := by
  rw [inL_nat, inL_nat, if_neg (by omega), if_neg (by omega)]
  exact (prd_tail tn).dvd d n
/-- what comes round from b on by L has a form within -/
theorem form_within {r u : List Bool} (G : Form r u) {b L : Nat} (hL : 0 < L) (h : ∀ n : Nat, b ≤ n → inL r u ((n + L : Nat) : Int) = inL r u (n : Int)) : r.length ≤ b ∧ u.length ∣ L := by
  have g1 := G.pos
  have P : Prd (fun n => ix u (n % u.length)) L := fun n => by
    have T := prd_tail u
    have e1 := T.mul n (b + r.length)
    have e2 := T.mul (n + L) (b + r.length)
    have big : b + r.length ≤ (b + r.length) * u.length := Nat.le_mul_of_pos_right _ g1
    have e := h (n + (b + r.length) * u.length) (by omega)
    rw [inL_nat, inL_nat, if_neg (by omega), if_neg (by omega)] at e
    rw [show n + (b + r.length) * u.length + L = n + L + (b + r.length) * u.length by omega] at e
    exact e2.symm.trans (e.trans e1)
  refine ⟨?_, len_of_prd g1 G.per hL P⟩
  rcases Nat.lt_or_ge b r.length with z | z
  · exfalso
    have e := h (r.length - 1) (by omega)
    rw [inL_nat, inL_nat, if_neg (by omega), if_pos (by omega)] at e
    exact G.beg (by omega) (e.symm.trans (P (r.length - 1)))
  · exact z
/-! ### told by what is asked of each number -/
def lowOf (P : Nat → Bool) (st : Nat) : List Nat := (List.range st).filter P
def resOf (P : Nat → Bool) (st p : Nat) : List Nat := (((List.range (st + p)).filter P).filter fun n => decide (st ≤ n)).map (· % p)
theorem mem_res {P : Nat → Bool} {st p : Nat} (hp : 0 < p) (hP : ∀ n, st ≤ n → P (n + p) = P n) {n : Nat} (hn : st ≤ n) : n % p ∈ resOf P st p ↔ P n = true := by
  have rep : ∀ m k, st ≤ m → P (m + k * p) = P m := fun m k hm => by
    induction k with
    | zero => rw [Nat.zero_mul]; rfl
    | succ k ih => rw [Nat.succ_mul, ← Nat.add_assoc, hP _ (by omega), ih]
  have same : ∀ m, st ≤ m → m % p = n % p → P m = P n := fun m hm e => by
    have a := Nat.mod_add_div m p
    have b := Nat.mod_add_div n p
    rcases Nat.le_total (m / p) (n / p) with z | z
    · have : n = m + (n / p - m / p) * p := by
        rw [Nat.sub_mul]
        have := Nat.mul_le_mul_right p z
        rw [Nat.mul_comm] at a b
        omega
      rw [this, rep m _ hm]
    · have : m = n + (m / p - n / p) * p := by
        rw [Nat.sub_mul]
        have := Nat.mul_le_mul_right p z
        rw [Nat.mul_comm] at a b
        omega
      rw [this, rep n _ hn]
  unfold resOf
  rw [List.mem_map]
  constructor
  · rintro ⟨m, hm, e⟩
    rw [List.mem_filter, List.mem_filter] at hm
    rw [← same m (of_decide_eq_true hm.2) e]
    exact hm.1.2
  · intro h
    have hd := Nat.mod_lt (n - st) hp
    refine ⟨st + (n - st) % p, ?_, ?_⟩
    · rw [List.mem_filter, List.mem_filter, List.mem_range]
      refine ⟨⟨by omega, ?_⟩, decide_eq_true (by omega)⟩
      rw [same _ (by omega) ?_]
      · exact h
      · rw [Nat.add_mod_mod]
        congr 1
        omega
    · rw [Nat.add_mod_mod]
      congr 1
      omega
theorem low_of {P : Nat → Bool} {st p : Nat} : ((List.range (st + p)).filter P).filter (fun n => decide (n < st)) = lowOf P st := by
  unfold lowOf
  rw [List.range_add, List.filter_append, List.filter_append, List.filter_filter]
  have e1 : (List.range st).filter (fun a => decide (a < st) && P a) = (List.range st).filter P := List.filter_congr fun a ha => by rw [decide_eq_true (List.mem_range.1 ha), Bool.true_and]
  have e2 : (((List.range p).map (st + ·)).filter P).filter (fun n => decide (n < st)) = [] := List.filter_eq_nil_iff.2 fun a ha => by
    obtain ⟨b, _, rfl⟩ := List.mem_map.1 (List.mem_filter.1 ha).1
    rw [decide_eq_true_eq]
    omega
  rw [e1, e2, List.append_nil]
end Ln

/-! Pieces that several laws' own defs have. -/
namespace AW
open PySem PySem.Spec L2 LamX
section
variable {c : Cw} {kn : Hp} {n : Nat} {σ : L2.St} {Q : V → Hp → Nat → Prop} {K : PySem.W.Frag}
/-- a value that changes nothing -/
theorem w_pure {t : TE} (v0 : V) (h : W c (t σ) kn n fun v k m => v = v0 ∧ k = kn ∧ m = n) (q : Q v0 kn n) : W c (t σ) kn n Q :=
  h.mono fun v k m ⟨e1, e2, e3⟩ => by subst e1 e2 e3; exact q
theorem w_revL {te : TE} (h : W c (te σ) kn n fun x kn1 n1 => ∃ a xs, x = .ref a ∧ kn1 a = some (.lst xs) ∧ ∀ p, kn1 p = none → Q (.ref p) (upd kn1 p (.lst xs.reverse)) n1) : W c (tRevL K te σ) kn n Q :=
  fun H g Q' q => h H g _ fun x kn1 n1 H1 ⟨a, xs, e, hx, hq⟩ g1 => ⟨a, xs, e, sql (g1.ex _ _ hx), fun p hp => q _ _ _ _ (hq p (g1.free hp)) (g1.new hp)⟩
end
/-- [n for n in range(s) if draw(pen, 2) == 0] -/
theorem w_lcOver {p a : Addr} {ns : List Int} {TT : List (Addr × Str)} {kn : Hp} {n : Nat} {σ : L2.St} {Q : V → Hp → Nat → Prop} {s jp js m : Nat} (h4 : σ[js]? = some (some (.int (s : Int)))) (h1 : ∀ v : V, ((wipe σ [m]).set m (some v))[jp]? = some (some (.ref p))) (h6 : ∀ v : V, ((wipe σ [m]).set m (some v))[m]? = some (some v)) (hw : ∀ v : V, wipe ((wipe σ [m]).set m (some v)) [m] = wipe σ [m])
    (hs : s ≤ 100) (hn : n + s + 1 < 1000000)
    (h : ∀ (D : Addr) (ys : List Nat) (n' : Nat), kn D = none → (∀ y ∈ ys, y < s) → ys.length ≤ s → n' ≤ n + s → Q (.ref D) (upd kn D (.lst (ys.map fun (i : Nat) => V.int i))) n') :
    W (penC p a ns TT) (tLc (iRng1 (tCons (tVar js) tNil)) (gName m) (tTest (tOp rEq (tCall spDraw [] E0 (tCons (tVar jp) (tCons (tC (.int 2)) tNil))) (tC (.int 0)))) (tVar m) [m] σ) kn n Q := by
  refine w_lc (i_rng1 (w_cons (w_var h4 (w_nil ⟨_, rfl, by omega, by omega, ?_⟩))))
  rw [Int.toNat_natCast]
  refine ⟨_, (fun _ => True), fun D i acc k m => k = upd kn D (.lst acc) ∧ kn D = none ∧ m ≤ n + i ∧ i ≤ s ∧ ∃ ys : List Nat, acc = (ys.map fun (i : Nat) => V.int i) ∧ ys.length ≤ i ∧ ∀ y ∈ ys, y < s, gives_rng, by rw [List.length_map, List.length_range]; omega, fun D hD => ⟨rfl, hD, by omega, by omega, [], rfl, Nat.le_refl 0, fun y hy => (by cases hy)⟩, ?_, ?_, ?_⟩
  · rintro D i acc k m ⟨rfl, hD, _, _, ys, rfl, hl, _⟩
    exact ⟨trivial, upd_same, by rw [List.length_map]; exact hl⟩
  · rintro D i acc x k m hx ⟨rfl, hD, hm, _, ys, rfl, hl, hy⟩
    have hi : i < s := by
      have := (List.getElem?_eq_some_iff.1 hx).1
      rw [List.length_map, List.length_range] at this
      exact this
    obtain rfl : x = V.int (i : Int) := by
      rw [List.getElem?_map, List.getElem?_range hi] at hx
      rw [← Option.some.inj hx]
      exact congrArg V.int (show (0 : Int) + ((i : Nat) : Int) = ((i : Nat) : Int) by omega)
    refine g_name ⟨hw _, w_test (w_op (w_draw (w_cons (w_var (h1 _) (w_cons (w_c (w_nil ⟨2, rfl, by omega, by decide, by decide, fun k2 k20 k21 => w_c (r_eq rfl ⟨_, rfl, fun _ => ?_, fun _ => ?_⟩)⟩)))))))⟩
    · refine w_var (h6 _) ⟨upd_same, ?_, hD, by omega, by omega, ys ++ [i], by rw [List.map_append]; rfl, by rw [List.length_append]; show _ + 1 ≤ _; omega, fun y hy2 => ?_⟩
      · funext b
        by_cases hb : b = D
        · rw [hb, upd_same, upd_same]
        · rw [upd_ne hb, upd_ne hb, upd_ne hb]
      · rcases List.mem_append.1 hy2 with z | z
        · exact hy y z
        · rw [List.mem_singleton.1 z]
          exact hi
    · exact ⟨rfl, hD, by omega, by omega, ys, rfl, by omega, hy⟩
  · rintro D acc k m ⟨rfl, hD, hm, hs2, ys, rfl, hl, hy⟩
    rw [List.length_map, List.length_range] at hm hl
    exact h D ys m hD hy (by omega) (by omega)
section
variable {c : Cw} {kn : Hp} {n : Nat} {σ : L2.St} {Q : V → Hp → Nat → Prop}
/-- a comprehension without a test that changes nothing, its items one by one -/
theorem w_lcV {wi : TI} {gt : TG} {te : TE} {vs : List Nat}
    (h : WI c (wi σ) kn n fun J kn1 n1 => ∃ (xs : List V) (ka : Hp → Prop) (ys : List V), Gives J xs ka ∧ xs.length ≤ 100000 ∧ ys.length = xs.length ∧ (∀ k, Ext kn1 k → ka k) ∧
      (∀ (i : Nat) (x y : V), xs[i]? = some x → ys[i]? = some y → ∀ k, Ext kn1 k → WG c gt x (wipe σ vs) k n1 fun σ2 k2 n2 => k2 = k ∧ n2 = n1 ∧ wipe σ2 vs = wipe σ vs ∧ W c (te σ2) k n1 fun v k4 n4 => v = y ∧ k4 = k ∧ n4 = n1) ∧
      ∀ D, kn1 D = none → Q (.ref D) (upd kn1 D (.lst ys)) n1) : W c (tLc wi gt tYes te vs σ) kn n Q := by
  refine w_lc (fun H g R' q => h H g R' fun J kn1 n1 H1 hJ g1 => q J kn1 n1 H1 ?_ g1)
  obtain ⟨xs, ka, ys, hG, hl, hy, hk, hs, hd⟩ := hJ
  have e1 : ∀ {k : Hp} {D : Addr} {o : HO}, k D = none → Ext k (upd k D o) := fun h x u e => know h e
  refine ⟨xs, ka, fun D i acc k m => m = n1 ∧ kn1 D = none ∧ acc = ys.take i ∧ k = upd kn1 D (.lst acc), hG, hl, fun D hD => ⟨rfl, hD, by simp, rfl⟩, ?_, ?_, ?_⟩
  · rintro D i acc k m ⟨rfl, hD, rfl, rfl⟩
    exact ⟨hk _ (e1 hD), upd_same, by rw [List.length_take]; exact Nat.min_le_left _ _⟩
  · rintro D i acc x k m hx ⟨rfl, hD, rfl, rfl⟩
    have hi : i < ys.length := by rw [hy]; exact (List.getElem?_eq_some_iff.1 hx).1
    intro H g N' f'
    refine hs i x _ hx (List.getElem?_eq_getElem hi) _ (e1 hD) H g N' fun σ2 k2 n2 H2 hq g2 => f' σ2 k2 n2 H2 ?_ g2
    obtain ⟨rfl, rfl, hw, hq⟩ := hq
    refine ⟨hw, w_yesT ⟨fun _ => hq.mono fun y k4 n4 hy2 => ?_, fun z => nomatch z⟩⟩
    obtain ⟨rfl, rfl, rfl⟩ := hy2
    refine ⟨upd_same, rfl, hD, ?_, ?_⟩
    · rw [List.take_add_one, List.getElem?_eq_getElem hi]; rfl
    · funext z
      by_cases hz : z = D
      · rw [hz, upd_same, upd_same]
      · rw [upd_ne hz, upd_ne hz, upd_ne hz]
  · rintro D acc k m ⟨rfl, hD, rfl, rfl⟩
    rw [← hy, List.take_length]
    exact hd D hD
/-- a comprehension without a test whose items are made anew -/
theorem w_lcN {wi : TI} {gt : TG} {te : TE} {vs : List Nat} (R : Nat → V → Hp → Prop) (hE : ∀ i v k k', Ext k k' → R i v k → R i v k') (hP : ∀ i v k D zs o, k D = some (.lst zs) → R i v k → R i v (upd k D o))
    (h : WI c (wi σ) kn n fun J kn1 n1 => ∃ (xs : List V) (ka : Hp → Prop), Gives J xs ka ∧ xs.length ≤ 100000 ∧ (∀ k, Ext kn1 k → ka k) ∧
      (∀ (i : Nat) (x : V), xs[i]? = some x → ∀ k, Ext kn1 k → WG c gt x (wipe σ vs) k n1 fun σ2 k2 n2 => k2 = k ∧ n2 = n1 ∧ wipe σ2 vs = wipe σ vs ∧ W c (te σ2) k n1 fun v k4 n4 => n4 = n1 ∧ Ext k k4 ∧ R i v k4) ∧
      ∀ D k (ys : List V), Ext kn1 k → kn1 D = none → k D = some (.lst ys) → ys.length = xs.length → (∀ (i : Nat) (y : V), ys[i]? = some y → R i y k) → Q (.ref D) k n1) : W c (tLc wi gt tYes te vs σ) kn n Q := by
  refine w_lc (fun H g R' q => h H g R' fun J kn1 n1 H1 hJ g1 => q J kn1 n1 H1 ?_ g1)
  obtain ⟨xs, ka, hG, hl, hk, hs, hd⟩ := hJ
  have e1 : ∀ {k : Hp} {D : Addr} {o : HO}, k D = none → Ext k (upd k D o) := fun h x u e => know h e
  refine ⟨xs, ka, fun D i acc k m => m = n1 ∧ kn1 D = none ∧ Ext kn1 k ∧ k D = some (.lst acc) ∧ acc.length = i ∧ ∀ (j : Nat) (y : V), acc[j]? = some y → R j y k, hG, hl, fun D hD => ⟨rfl, hD, e1 hD, upd_same, rfl, fun j y hj => (by cases hj)⟩, ?_, ?_, ?_⟩
  · rintro D i acc k m ⟨rfl, hD, ek, kD, hl, hr⟩
    exact ⟨hk _ ek, kD, Nat.le_of_eq hl⟩
  · rintro D i acc x k m hx ⟨rfl, hD, ek, kD, hl, hr⟩
    intro H g N' f'
    refine hs i x hx _ ek H g N' fun σ2 k2 n2 H2 hq g2 => f' σ2 k2 n2 H2 ?_ g2
    obtain ⟨rfl, rfl, hw, hq⟩ := hq
    refine ⟨hw, w_yesT ⟨fun _ => hq.mono fun y k4 n4 hy2 => ?_, fun z => nomatch z⟩⟩
    obtain ⟨rfl, e4, hy⟩ := hy2
    have kD4 := e4 _ _ kD
    refine ⟨kD4, rfl, hD, fun z o hz => ?_, upd_same, by rw [List.length_append, hl]; rfl, fun j y' hj => ?_⟩
    · rw [upd_ne (fun e => by rw [e, hD] at hz; cases hz)]
      exact e4 _ _ (ek _ _ hz)
    · refine hP _ _ _ _ _ _ kD4 ?_
      rcases Nat.lt_or_ge j acc.length with z | z
      · rw [List.getElem?_append_left z] at hj
        exact hE _ _ _ _ e4 (hr j y' hj)
      · rw [List.getElem?_append_right z] at hj
        have : j - acc.length = 0 := by
          rcases Nat.eq_zero_or_pos (j - acc.length) with e | e
          · exact e
          · rw [List.getElem?_eq_none (by show 1 ≤ _; omega)] at hj; cases hj
        rw [this] at hj
        cases hj
        have : j = i := by omega
        rw [this]
        exact hy
  · rintro D acc k m ⟨rfl, hD, ek, kD, hl, hr⟩
    exact hd D k acc ek hD kD hl hr
end
end AW

namespace NN
open PySem PySem.Spec PyProof.Rows L2 LamX AW ClX
def codeTab : Obj → Option Addr
  | ⟨.type "code", _, .fields vs, _⟩ => match (vs[11]? : Option Value) with | some (.ref P) => some P | _ => none
  | _ => none
def codeB (o : Obj) (c P : Addr) : Bool := PySem.W.codeHdIn [(c, o)] c P
theorem codeB_in {K : PySem.W.Frag} {o : Obj} {c P : Addr} (h : K.lookup c = some o) (e : codeB o c P = true) : PySem.W.codeHdIn K c P = true := by
  have q : ([(c, o)] : PySem.W.Frag).lookup c = some o := by simp [List.lookup]
  unfold codeB PySem.W.codeHdIn at e
  rw [q] at e
  unfold PySem.W.codeHdIn
  rw [h]
  exact e
theorem mem_look {β : Type} : ∀ {l : List (Addr × β)} {a : Addr} {b : β}, l.lookup a = some b → (a, b) ∈ l
  | [], _, _, e => by cases e
  | (c, x) :: r, a, b, e => by
    rw [List.lookup_cons] at e
    cases hb : a == c with
    | true => rw [hb] at e; cases e; rw [eq_of_beq hb]; exact .head _
    | false => rw [hb] at e; exact .tail _ (mem_look e)
theorem none_of {K : Params → PySem.W.Frag} {as : List Addr} {e : ∀ P, as = (K P).map (·.1)} {ts : List Addr} {w : World} {h : Heap} (_ : (PySem.W.kmHook K as e ts).says w h) {a : Addr} (ha : decide (a ∈ as) = false) : (K w.params).lookup a = none := by
  cases q : (K w.params).lookup a with
  | none => rfl
  | some o =>
    have m : a ∈ as := by rw [e w.params]; exact List.mem_map.mpr ⟨(a, o), mem_look q, rfl⟩
    exact absurd m (of_decide_eq_false ha)
def top (i : Nat) : Stmt := PySem.Challenge.pw_nodeadnight_k09_texts_that_are_no_length.main.body.getD i (.Pass ⟨0, 0, 0, 0⟩)
abbrev s_is_whole : Stmt := top 4
theorem sc_is_whole : FnScope ["value"] ["value"] (defScope s_is_whole) :=
  ⟨rfl, rfl, rfl, by decide +kernel, rfl, by decide +kernel, by decide +kernel⟩
abbrev s_is_from : Stmt := top 5
theorem sc_is_from : FnScope ["value", "least", "most"] ["value", "least", "most"] (defScope s_is_from) :=
  ⟨rfl, rfl, rfl, by decide +kernel, rfl, by decide +kernel, by decide +kernel⟩
abbrev s_are_from : Stmt := top 6
theorem sc_are_from : FnScope ["values", "least", "most", "value"] ["values", "least", "most"] (defScope s_are_from) :=
  ⟨rfl, rfl, rfl, by decide +kernel, rfl, by decide +kernel, by decide +kernel⟩
abbrev s_read_number : Stmt := top 7
theorem sc_read_number : FnScope ["word", "digits", "number"] ["word"] (defScope s_read_number) :=
  ⟨rfl, rfl, rfl, by decide +kernel, rfl, by decide +kernel, by decide +kernel⟩
abbrev s_marked : Stmt := top 8
theorem sc_marked : FnScope ["size", "numbers", "marks", "n"] ["size", "numbers"] (defScope s_marked) :=
  ⟨rfl, rfl, rfl, by decide +kernel, rfl, by decide +kernel, by decide +kernel⟩
abbrev s_least_period : Stmt := top 9
theorem sc_least_period : FnScope ["turn", "size", "period"] ["turn"] (defScope s_least_period) :=
  ⟨rfl, rfl, rfl, by decide +kernel, rfl, by decide +kernel, by decide +kernel⟩
abbrev s_BadLengths___init__ : Stmt := inClass (top 14) 0
theorem sc_BadLengths___init__ : FnScope ["self", "part"] ["self", "part"] (defScope s_BadLengths___init__) :=
  ⟨rfl, rfl, rfl, by decide +kernel, rfl, by decide +kernel, by decide +kernel⟩
abbrev s_BadText___init__ : Stmt := inClass (top 16) 0
theorem sc_BadText___init__ : FnScope ["self", "line", "word"] ["self", "line", "word"] (defScope s_BadText___init__) :=
  ⟨rfl, rfl, rfl, by decide +kernel, rfl, by decide +kernel, by decide +kernel⟩
abbrev s_TooMany___init__ : Stmt := inClass (top 17) 0
theorem sc_TooMany___init__ : FnScope ["self", "what", "most"] ["self", "what", "most"] (defScope s_TooMany___init__) :=
  ⟨rfl, rfl, rfl, by decide +kernel, rfl, by decide +kernel, by decide +kernel⟩
abbrev s_Lengths___init__ : Stmt := inClass (top 19) 1
theorem sc_Lengths___init__ : FnScope ["self", "start", "low", "period", "rests", "near", "turn", "step", "astray", "n", "begin"] ["self", "start", "low", "period", "rests"] (defScope s_Lengths___init__) :=
  ⟨rfl, rfl, rfl, by decide +kernel, rfl, by decide +kernel, by decide +kernel⟩
abbrev s_Lengths_none : Stmt := inClass (top 19) 13
theorem sc_Lengths_none : FnScope [] [] (defScope s_Lengths_none) :=
  ⟨rfl, rfl, rfl, by decide +kernel, rfl, by decide +kernel, by decide +kernel⟩
abbrev s_Lengths_read : Stmt := inClass (top 19) 14
theorem sc_Lengths_read : FnScope ["cls", "text", "lengths"] ["cls", "text"] (defScope s_Lengths_read) :=
  ⟨rfl, rfl, rfl, by decide +kernel, rfl, by decide +kernel, by decide +kernel⟩
abbrev s_Lengths___str__ : Stmt := inClass (top 19) 29
theorem sc_Lengths___str__ : FnScope ["self", "words", "n", "rests"] ["self"] (defScope s_Lengths___str__) :=
  ⟨rfl, rfl, rfl, by decide +kernel, rfl, by decide +kernel, by decide +kernel⟩
abbrev s_check_parts : Stmt := top 20
theorem sc_check_parts : FnScope ["start", "low", "period", "rests"] ["start", "low", "period", "rests"] (defScope s_check_parts) :=
  ⟨rfl, rfl, rfl, by decide +kernel, rfl, by decide +kernel, by decide +kernel⟩
abbrev s_check_size : Stmt := top 21
theorem sc_check_size : FnScope ["start", "period"] ["start", "period"] (defScope s_check_size) :=
  ⟨rfl, rfl, rfl, by decide +kernel, rfl, by decide +kernel, by decide +kernel⟩
abbrev s_read_parts : Stmt := top 27
theorem sc_read_parts : FnScope ["text", "words", "word", "at", "low", "form", "start", "period", "rests"] ["text"] (defScope s_read_parts) :=
  ⟨rfl, rfl, rfl, by decide +kernel, rfl, by decide +kernel, by decide +kernel⟩
abbrev s__law_pen : Stmt := top 29
theorem sc__law_pen : FnScope ["script"] ["script"] (defScope s__law_pen) :=
  ⟨rfl, rfl, rfl, by decide +kernel, rfl, by decide +kernel, by decide +kernel⟩
abbrev s__law_draw : Stmt := top 30
theorem sc__law_draw : FnScope ["pen", "many", "digit", "at", "cell", "great", "mixed"] ["pen", "many"] (defScope s__law_draw) :=
  ⟨rfl, rfl, rfl, by decide +kernel, rfl, by decide +kernel, by decide +kernel⟩
abbrev s__law_pick : Stmt := top 31
theorem sc__law_pick : FnScope ["pen", "some"] ["pen", "some"] (defScope s__law_pick) :=
  ⟨rfl, rfl, rfl, by decide +kernel, rfl, by decide +kernel, by decide +kernel⟩
abbrev s__law_line : Stmt := top 32
theorem sc__law_line : FnScope ["pen", "low", "n", "head", "size", "over", "rest", "words"] ["pen"] (defScope s__law_line) :=
  ⟨rfl, rfl, rfl, by decide +kernel, rfl, by decide +kernel, by decide +kernel⟩
abbrev s__law_number : Stmt := top 33
theorem sc__law_number : FnScope ["word", "sign"] ["word"] (defScope s__law_number) :=
  ⟨rfl, rfl, rfl, by decide +kernel, rfl, by decide +kernel, by decide +kernel⟩
abbrev s__law_rising : Stmt := top 34
theorem sc__law_rising : FnScope ["words", "found", "word", "one", "other"] ["words"] (defScope s__law_rising) :=
  ⟨rfl, rfl, rfl, by decide +kernel, rfl, by decide +kernel, by decide +kernel⟩
abbrev s__law_is_least : Stmt := top 35
theorem sc__law_is_least : FnScope ["head", "low", "size", "over", "row", "k", "less"] ["head", "low", "size", "over"] (defScope s__law_is_least) :=
  ⟨rfl, rfl, rfl, by decide +kernel, rfl, by decide +kernel, by decide +kernel⟩
abbrev s__law_is_text : Stmt := top 36
theorem sc__law_is_text : FnScope ["line", "words", "cut", "low", "more", "head", "size", "over"] ["line"] (defScope s__law_is_text) :=
  ⟨rfl, rfl, rfl, by decide +kernel, rfl, by decide +kernel, by decide +kernel⟩
abbrev s__law_bent : Stmt := top 37
theorem sc__law_bent : FnScope ["pen", "line", "words", "way", "at", "some", "word"] ["pen", "line"] (defScope s__law_bent) :=
  ⟨rfl, rfl, rfl, by decide +kernel, rfl, by decide +kernel, by decide +kernel⟩
abbrev s__law_heard : Stmt := top 38
theorem sc__law_heard : FnScope ["ask", "caught", "found", "error"] ["ask"] (defScope s__law_heard) :=
  ⟨rfl, rfl, rfl, by decide +kernel, rfl, by decide +kernel, by decide +kernel⟩
abbrev s_law : Stmt := top 39
theorem sc_law : FnScope ["script", "pen", "turn", "line", "bent", "due", "odd", "told"] ["script"] (defScope s_law) :=
  ⟨rfl, rfl, rfl, by decide +kernel, rfl, by decide +kernel, by decide +kernel⟩
structure Tx (K : PySem.W.Frag) (mg : Str → Option Value) where
  f_is_whole : Addr
  d_is_whole : FuncData
  f_is_from : Addr
  d_is_from : FuncData
  f_are_from : Addr
  d_are_from : FuncData
  f_read_number : Addr
  d_read_number : FuncData
  f_marked : Addr
  d_marked : FuncData
  f_least_period : Addr
  d_least_period : FuncData
  f_check_parts : Addr
  d_check_parts : FuncData
  f_check_size : Addr
  d_check_size : FuncData
  f_read_parts : Addr
  d_read_parts : FuncData
  c_StayError : Addr
  c_BadLengths : Addr
  f_BadLengths___init__ : Addr
  d_BadLengths___init__ : FuncData
  c_TooMany : Addr
  f_TooMany___init__ : Addr
  d_TooMany___init__ : FuncData
  c_BadText : Addr
  f_BadText___init__ : Addr
  d_BadText___init__ : FuncData
  c_Lengths : Addr
  f_Lengths___init__ : Addr
  d_Lengths___init__ : FuncData
  dl_Lengths___init__ : Addr
  dr_Lengths___init__ : Addr
  f_Lengths___str__ : Addr
  d_Lengths___str__ : FuncData
  f_Lengths_read : Addr
  p_Lengths_read : Addr
  d_Lengths_read : FuncData
  f_Lengths_none : Addr
  p_Lengths_none : Addr
  d_Lengths_none : FuncData
  f__law_pen : Addr
  d__law_pen : FuncData
  f__law_draw : Addr
  d__law_draw : FuncData
  f__law_pick : Addr
  d__law_pick : FuncData
  f__law_line : Addr
  d__law_line : FuncData
  f__law_number : Addr
  d__law_number : FuncData
  f__law_rising : Addr
  d__law_rising : FuncData
  f__law_is_least : Addr
  d__law_is_least : FuncData
  f__law_is_text : Addr
  d__law_is_text : FuncData
  f__law_bent : Addr
  d__law_bent : FuncData
  f__law_heard : Addr
  d__law_heard : FuncData
  f_law : Addr
  d_law : FuncData
  cc_law : Addr
  tp_law : Addr
  g_is_whole : mg "is_whole" = some (.ref f_is_whole)
  F_is_whole : Fun K "is_whole" "is_whole" s_is_whole f_is_whole d_is_whole
  bd_is_whole : Binds K d_is_whole ["value"] []
  g_is_from : mg "is_from" = some (.ref f_is_from)
  F_is_from : Fun K "is_from" "is_from" s_is_from f_is_from d_is_from
  bd_is_from : Binds K d_is_from ["value", "least", "most"] []
  g_are_from : mg "are_from" = some (.ref f_are_from)
  F_are_from : Fun K "are_from" "are_from" s_are_from f_are_from d_are_from
  bd_are_from : Binds K d_are_from ["values", "least", "most"] []
  g_read_number : mg "read_number" = some (.ref f_read_number)
  F_read_number : Fun K "read_number" "read_number" s_read_number f_read_number d_read_number
  bd_read_number : Binds K d_read_number ["word"] []
  g_marked : mg "marked" = some (.ref f_marked)
  F_marked : Fun K "marked" "marked" s_marked f_marked d_marked
  bd_marked : Binds K d_marked ["size", "numbers"] []
  g_least_period : mg "least_period" = some (.ref f_least_period)
  F_least_period : Fun K "least_period" "least_period" s_least_period f_least_period d_least_period
  bd_least_period : Binds K d_least_period ["turn"] []
  g_check_parts : mg "check_parts" = some (.ref f_check_parts)
  F_check_parts : Fun K "check_parts" "check_parts" s_check_parts f_check_parts d_check_parts
  bd_check_parts : Binds K d_check_parts ["start", "low", "period", "rests"] []
  g_check_size : mg "check_size" = some (.ref f_check_size)
  F_check_size : Fun K "check_size" "check_size" s_check_size f_check_size d_check_size
  bd_check_size : Binds K d_check_size ["start", "period"] []
  g_read_parts : mg "read_parts" = some (.ref f_read_parts)
  F_read_parts : Fun K "read_parts" "read_parts" s_read_parts f_read_parts d_read_parts
  bd_read_parts : Binds K d_read_parts ["text"] []
  g_StayError : mg "StayError" = some (.ref c_StayError)
  g_BadLengths : mg "BadLengths" = some (.ref c_BadLengths)
  x_BadLengths : OexC K c_BadLengths
  xf_BadLengths : XfC K c_BadLengths
  xc_BadLengths : ExcC K c_BadLengths
  nx_BadLengths_part : PySem.W.findIn K (.ref c_BadLengths) "part" = some none
  fi_BadLengths___init__ : PySem.W.findIn K (.ref c_BadLengths) "__init__" = some (some (.ref f_BadLengths___init__))
  isf_BadLengths___init__ : PySem.W.isFn K (.ref f_BadLengths___init__) = true
  F_BadLengths___init__ : Fun K "__init__" "BadLengths.__init__" s_BadLengths___init__ f_BadLengths___init__ d_BadLengths___init__
  bd_BadLengths___init__ : Binds K d_BadLengths___init__ ["self", "part"] []
  ti_BadLengths : PySem.W.typeIn K (.ref f_BadLengths___init__) = some (.type "function")
  g_TooMany : mg "TooMany" = some (.ref c_TooMany)
  x_TooMany : OexC K c_TooMany
  xf_TooMany : XfC K c_TooMany
  xc_TooMany : ExcC K c_TooMany
  nx_TooMany_what : PySem.W.findIn K (.ref c_TooMany) "what" = some none
  nx_TooMany_most : PySem.W.findIn K (.ref c_TooMany) "most" = some none
  fi_TooMany___init__ : PySem.W.findIn K (.ref c_TooMany) "__init__" = some (some (.ref f_TooMany___init__))
  isf_TooMany___init__ : PySem.W.isFn K (.ref f_TooMany___init__) = true
  F_TooMany___init__ : Fun K "__init__" "TooMany.__init__" s_TooMany___init__ f_TooMany___init__ d_TooMany___init__
  bd_TooMany___init__ : Binds K d_TooMany___init__ ["self", "what", "most"] []
  ti_TooMany : PySem.W.typeIn K (.ref f_TooMany___init__) = some (.type "function")
  g_BadText : mg "BadText" = some (.ref c_BadText)
  x_BadText : OexC K c_BadText
  xf_BadText : XfC K c_BadText
  xc_BadText : ExcC K c_BadText
  nx_BadText_line : PySem.W.findIn K (.ref c_BadText) "line" = some none
  nx_BadText_word : PySem.W.findIn K (.ref c_BadText) "word" = some none
  fi_BadText___init__ : PySem.W.findIn K (.ref c_BadText) "__init__" = some (some (.ref f_BadText___init__))
  isf_BadText___init__ : PySem.W.isFn K (.ref f_BadText___init__) = true
  F_BadText___init__ : Fun K "__init__" "BadText.__init__" s_BadText___init__ f_BadText___init__ d_BadText___init__
  bd_BadText___init__ : Binds K d_BadText___init__ ["self", "line", "word"] []
  ti_BadText : PySem.W.typeIn K (.ref f_BadText___init__) = some (.type "function")
  g_Lengths : mg "Lengths" = some (.ref c_Lengths)
  cl_Lengths : Cls K c_Lengths
  own_Lengths : OwnC K c_Lengths
  na_Lengths__start : NoAttr K c_Lengths "_start"
  na_Lengths__period : NoAttr K c_Lengths "_period"
  na_Lengths__low : NoAttr K c_Lengths "_low"
  na_Lengths__rests : NoAttr K c_Lengths "_rests"
  na_Lengths__marks : NoAttr K c_Lengths "_marks"
  fi_Lengths___init__ : PySem.W.findIn K (.ref c_Lengths) "__init__" = some (some (.ref f_Lengths___init__))
  kt_dl_Lengths___init__ : KTup K dl_Lengths___init__ []
  kt_dr_Lengths___init__ : KTup K dr_Lengths___init__ []
  F_Lengths___init__ : FunD K "__init__" "Lengths.__init__" (defArgs s_Lengths___init__) (defBody s_Lengths___init__) (defScope s_Lengths___init__) [.ref dl_Lengths___init__, .int 1, .ref dr_Lengths___init__] [] f_Lengths___init__ d_Lengths___init__
  bd1_Lengths : ∃ ds, Vals ([V.ref dl_Lengths___init__, .int 1, .ref dr_Lengths___init__].drop 0) ds ∧ Binds K d_Lengths___init__ ["self", "start", "low", "period", "rests"] ds
  bd2_Lengths : ∃ ds, Vals ([V.ref dl_Lengths___init__, .int 1, .ref dr_Lengths___init__].drop 1) ds ∧ Binds K d_Lengths___init__ ["self", "start", "low", "period", "rests"] ds
  bd4_Lengths : ∃ ds, Vals ([V.ref dl_Lengths___init__, .int 1, .ref dr_Lengths___init__].drop 3) ds ∧ Binds K d_Lengths___init__ ["self", "start", "low", "period", "rests"] ds
  fi_Lengths___str__ : PySem.W.findIn K (.ref c_Lengths) "__str__" = some (some (.ref f_Lengths___str__))
  isf_Lengths___str__ : PySem.W.isFn K (.ref f_Lengths___str__) = true
  F_Lengths___str__ : Fun K "__str__" "Lengths.__str__" s_Lengths___str__ f_Lengths___str__ d_Lengths___str__
  bd_Lengths___str__ : Binds K d_Lengths___str__ ["self"] []
  cr_Lengths : CRead K c_Lengths (.type "type")
  F_Lengths_read : Fun K "read" "Lengths.read" s_Lengths_read f_Lengths_read d_Lengths_read
  bd_Lengths_read : Binds K d_Lengths_read ["cls", "text"] []
  cm_Lengths_read : CMet K c_Lengths (.type "type") "read" p_Lengths_read f_Lengths_read
  F_Lengths_none : Fun K "none" "Lengths.none" s_Lengths_none f_Lengths_none d_Lengths_none
  bd_Lengths_none : Binds K d_Lengths_none [] []
  sme_Lengths_none : SMet K c_Lengths (.type "type") "none" p_Lengths_none f_Lengths_none
  exm_BadText : PySem.W.exmOne K (.ref c_BadText) (.ref c_StayError) = some true
  exm_BadText_BL : PySem.W.exmOne K (.ref c_BadText) (.ref c_BadLengths) = some false
  exm_BadText_TM : PySem.W.exmOne K (.ref c_BadText) (.ref c_TooMany) = some false
  exm_BadLengths_BL : PySem.W.exmOne K (.ref c_BadLengths) (.ref c_BadLengths) = some true
  exm_BadLengths_TM : PySem.W.exmOne K (.ref c_BadLengths) (.ref c_TooMany) = some false
  exm_TooMany_BL : PySem.W.exmOne K (.ref c_TooMany) (.ref c_BadLengths) = some false
  exm_TooMany_TM : PySem.W.exmOne K (.ref c_TooMany) (.ref c_TooMany) = some true
  kit_BadText : PySem.W.kitOne K (.ref c_BadText) (.ref c_BadText) = some true
  kit_Lengths : PySem.W.kitOne K (.ref c_Lengths) (.ref c_Lengths) = some true
  kit_Lengths_str : PySem.W.kitOne K (.ref c_Lengths) (.type "str") = some false
  g__law_pen : mg "_law_pen" = some (.ref f__law_pen)
  F__law_pen : Fun K "_law_pen" "_law_pen" s__law_pen f__law_pen d__law_pen
  bd__law_pen : Binds K d__law_pen ["script"] []
  g__law_draw : mg "_law_draw" = some (.ref f__law_draw)
  F__law_draw : Fun K "_law_draw" "_law_draw" s__law_draw f__law_draw d__law_draw
  bd__law_draw : Binds K d__law_draw ["pen", "many"] []
  g__law_pick : mg "_law_pick" = some (.ref f__law_pick)
  F__law_pick : Fun K "_law_pick" "_law_pick" s__law_pick f__law_pick d__law_pick
  bd__law_pick : Binds K d__law_pick ["pen", "some"] []
  g__law_line : mg "_law_line" = some (.ref f__law_line)
  F__law_line : Fun K "_law_line" "_law_line" s__law_line f__law_line d__law_line
  bd__law_line : Binds K d__law_line ["pen"] []
  g__law_number : mg "_law_number" = some (.ref f__law_number)
  F__law_number : Fun K "_law_number" "_law_number" s__law_number f__law_number d__law_number
  bd__law_number : Binds K d__law_number ["word"] []
  g__law_rising : mg "_law_rising" = some (.ref f__law_rising)
  F__law_rising : Fun K "_law_rising" "_law_rising" s__law_rising f__law_rising d__law_rising
  bd__law_rising : Binds K d__law_rising ["words"] []
  g__law_is_least : mg "_law_is_least" = some (.ref f__law_is_least)
  F__law_is_least : Fun K "_law_is_least" "_law_is_least" s__law_is_least f__law_is_least d__law_is_least
  bd__law_is_least : Binds K d__law_is_least ["head", "low", "size", "over"] []
  g__law_is_text : mg "_law_is_text" = some (.ref f__law_is_text)
  F__law_is_text : Fun K "_law_is_text" "_law_is_text" s__law_is_text f__law_is_text d__law_is_text
  bd__law_is_text : Binds K d__law_is_text ["line"] []
  g__law_bent : mg "_law_bent" = some (.ref f__law_bent)
  F__law_bent : Fun K "_law_bent" "_law_bent" s__law_bent f__law_bent d__law_bent
  bd__law_bent : Binds K d__law_bent ["pen", "line"] []
  g__law_heard : mg "_law_heard" = some (.ref f__law_heard)
  F__law_heard : Fun K "_law_heard" "_law_heard" s__law_heard f__law_heard d__law_heard
  bd__law_heard : Binds K d__law_heard ["ask"] []
  g_law : mg "law" = some (.ref f_law)
  F_law : Fun K "law" "law" s_law f_law d_law
  bd_law : Binds K d_law ["script"] []
  b_isinstance : mg "isinstance" = none
  b_int : mg "int" = none
  b_bool : mg "bool" = none
  b_len : mg "len" = none
  b_tuple : mg "tuple" = none
  b_range : mg "range" = none
  b_list : mg "list" = none
  b_abs : mg "abs" = none
  b_str : mg "str" = none
  b_all : mg "all" = none
  b_zip : mg "zip" = none
  g_DIGITS : ∃ t, mg "DIGITS" = some (.int 12 t)
  cv_Lengths_MOST : ∃ u, CVal K c_Lengths (.type "type") "MOST" (.int 400) u
  code_law : d_law.code = .ref cc_law
  mk_Lengths : Mk K c_Lengths f_Lengths___init__
  sm_Lengths___str__ : SpM K c_Lengths f_Lengths___str__ "__str__"
end NN

open AW L2
-- what is known at an address
local macro_rules | `(tactic| walk_at "kn") => `(tactic| first
  | assumption
  | exact upd_same
  | ((with_reducible refine' keep2 ?h1 ?h2); (case h1 => first | assumption | (exact Ne.symm (by assumption))); (case h2 => walk_at "kn"))
  | ((with_reducible refine' know ?h1 ?h2); (case h1 => assumption); (case h2 => walk_at "kn"))
  | ((with_reducible refine' Ext.know ?h1 ?h2); (case h1 => assumption); (case h2 => walk_at "kn")))
-- one step
local macro_rules | `(tactic| walk_at "w1") => `(tactic| first
  | ((with_reducible refine' w_var ?hv ?_); (case hv => rfl))
  | with_reducible refine' w_c ?_
  | with_reducible refine' w_op ?_
  | with_reducible refine' r_I0 ?_
  | with_reducible refine' w_nil ?_
  | with_reducible refine' w_cons ?_
  | with_reducible refine' w_cb ?_
  | with_reducible refine' r_int1 ?_
  | with_reducible refine' r_int1b ?_
  | with_reducible refine' r_abs ?_
  | ((with_reducible refine' r_lenL ?h1 ?_); (case h1 => walk_at "kn"))
  | ((with_reducible refine' r_lenT ?h1 ?_); (case h1 => walk_at "kn"))
  | ((with_reducible refine' r_neV ?h1 ?_); (case h1 => rfl))
  | ((with_reducible refine' r_eqV ?h1 ?_); (case h1 => rfl))
  | ((with_reducible refine' r_eq ?h1 ?_); (case h1 => rfl))
  | ((with_reducible refine' r_ne ?h1 ?_); (case h1 => rfl))
  | ((with_reducible refine' r_ixL ?h1 ?h2 ?_); (case h1 => walk_at "kn"); (case h2 => rfl))
  | ((with_reducible refine' r_ixT ?h1 ?h2 ?_); (case h1 => walk_at "kn"); (case h2 => rfl))
  | with_reducible refine' w_test ?_
  | with_reducible refine' w_B ?_
  | with_reducible refine' w_un ?_
  | with_reducible refine' r_U ?_
  | with_reducible refine' w_and ?_
  | with_reducible refine' w_or ?_
  | with_reducible refine' w_not ?_
  | with_reducible refine' w_andV ?_
  | with_reducible refine' w_orV ?_
  | with_reducible refine' w_notV ?_
  | with_reducible refine' w_ifE ?_
  | with_reducible refine' r_isNt ?_
  | with_reducible refine' r_isNr ?_
  | with_reducible refine' w_chain ?_
  | with_reducible refine' w_tupRg ?_
  | with_reducible refine' w_joined ?_
  | with_reducible refine' w_js0 ?_
  | with_reducible refine' w_js ?_
  | with_reducible refine' w_cval ?_
  | with_reducible refine' s_fld ?_
  | with_reducible refine' w_tup ?_
  | with_reducible refine' w_lst ?_
  | with_reducible refine' w_sl ?_
  | with_reducible refine' w_part ?_
  | with_reducible refine' w_noPart ?_
  | with_reducible refine' s_seq ?_
  | with_reducible refine' s_next ?_
  | with_reducible refine' s_ret ?_
  | with_reducible refine' s_retN ?_
  | with_reducible refine' s_drop ?_
  | with_reducible refine' s_brk ?_
  | with_reducible refine' s_cont ?_
  | with_reducible refine' s_set ?_
  | with_reducible refine' s_asg ?_
  | with_reducible refine' s_par ?_
  | ((with_reducible refine' s_aug ?h1 ?_); (case h1 => rfl))
  | with_reducible refine' g_name ?_
  | with_reducible refine' g_cons ?_
  | with_reducible refine' g_nil ?_
  | with_reducible refine' g_set ?_
  | with_reducible refine' both_t ?_
  | with_reducible refine' both_f ?_
  | with_reducible refine' both_nt ?_
  | with_reducible refine' both_nf ?_
  | with_reducible refine' bor_t ?_
  | with_reducible refine' bor_f ?_
  | with_reducible refine' bor_nt ?_
  | with_reducible refine' bor_nf ?_
  | with_reducible refine' ⟨_, rfl, ?_⟩)
local macro_rules | `(tactic| walk_at "w") => `(tactic| repeat (first | walk_at "w1" | dsimp only))
local macro_rules | `(tactic| walk_at "if") => `(tactic| ((with_reducible refine' s_if ?_); walk_at "w"; refine ⟨fun hb => ?_, fun hb => ?_⟩))
local macro_rules | `(tactic| walk_at "wi") => `(tactic| repeat (first | walk_at "w1" | with_reducible refine' s_if ?_ | dsimp only))

namespace NN
open PySem PySem.Spec PyProof.Rows L2 LamX AW ClX
/-! ### promises -/
/-- a value that is no whole number -/
def Odd (K : PySem.W.Frag) (kn : Hp) (x : V) : Prop := ∃ t bi, TyX K kn x t ∧ PySem.W.kitOne K t (.type "int") = some bi ∧ (bi = true → PySem.W.kitOne K t (.type "bool") = some true)
def bWhole (K : PySem.W.Frag) : List V → Hp → AK → AXK → Prop := fun vs kn Q _ => ∃ x, vs = [x] ∧ ((∃ i, x = .int i ∧ Q (.bl true) kn) ∨ (Odd K kn x ∧ Q (.bl false) kn))
def bFrom (K : PySem.W.Frag) : List V → Hp → AK → AXK → Prop := fun vs kn Q _ => ∃ x lo hi, vs = [x, .int lo, .int hi] ∧ ((∃ i, x = .int i ∧ Q (.bl (decide (lo ≤ i) && decide (i ≤ hi))) kn) ∨ (Odd K kn x ∧ Q (.bl false) kn))
abbrev lastDay : Int := 999999999999
def bDay (K : PySem.W.Frag) : List V → Hp → AK → AXK → Prop := fun vs kn Q _ => ∃ x, vs = [x] ∧ ((∃ i, x = .int i ∧ Q (.bl (decide (-lastDay ≤ i) && decide (i ≤ lastDay))) kn) ∨ (Odd K kn x ∧ Q (.bl false) kn))
section
variable {K : PySem.W.Frag}
theorem mo_whole : MonoX (bWhole K) := by
  rintro vs kn Q R E F h1 h2 ⟨x, e, ⟨i, e2, h⟩ | ⟨o, h⟩⟩
  · exact ⟨x, e, .inl ⟨i, e2, h1 _ _ h⟩⟩
  · exact ⟨x, e, .inr ⟨o, h1 _ _ h⟩⟩
theorem mo_from : MonoX (bFrom K) := by
  rintro vs kn Q R E F h1 h2 ⟨x, lo, hi, e, ⟨i, e2, h⟩ | ⟨o, h⟩⟩
  · exact ⟨x, lo, hi, e, .inl ⟨i, e2, h1 _ _ h⟩⟩
  · exact ⟨x, lo, hi, e, .inr ⟨o, h1 _ _ h⟩⟩
theorem mo_day : MonoX (bDay K) := by
  rintro vs kn Q R E F h1 h2 ⟨x, e, ⟨i, e2, h⟩ | ⟨o, h⟩⟩
  · exact ⟨x, e, .inl ⟨i, e2, h1 _ _ h⟩⟩
  · exact ⟨x, e, .inr ⟨o, h1 _ _ h⟩⟩
theorem odd_ext {kn kn' : Hp} {x : V} (e : Ext kn kn') (h : Odd K kn x) : Odd K kn' x := by
  obtain ⟨t, bi, a, b, d⟩ := h
  exact ⟨t, bi, tyx_ext e a, b, d⟩
end
section
variable {P : Program} {w : World} {K : PySem.W.Frag} {mg : Str → Option Value} {base : Heap}
theorem ok_is_whole (T : Tx K mg) : FnOk P w K mg base CX0 1 T.f_is_whole T.d_is_whole ["value"] (liftX (bWhole K)) := by
  refine T.F_is_whole.ok sc_is_whole (fun vs H Q E h => ?_) (fun cdv A outer s H vs Q E hr h => ?_)
  · obtain ⟨kn, _, _, x, rfl, _⟩ := h
    rfl
  · obtain ⟨kn, e, nt, x, rfl, h⟩ := h
    refine ⟨_, (pss_one (ps_ret (pe_and (pe_callB call_isi (by rfl) T.b_isinstance (by decide +kernel) (pa_cons (pv 0) (pa_cons (pe_bltn (v := .ty "int") (u := .type "int") (by rfl) T.b_int (by decide +kernel) rfl) pa_nil))) (pe_one (pe_not (pe_callB call_isi (by rfl) T.b_isinstance (by decide +kernel) (pa_cons (pv 0) (pa_cons (pe_bltn (v := .ty "bool") (u := .type "bool") (by rfl) T.b_bool (by decide +kernel) rfl) pa_nil)))))))), ?_⟩
    refine body_of (pure_start e nt) ?_
    walk_at "wi"
    rcases h with ⟨i, rfl, h⟩ | ⟨⟨t, bi, ty, e1, e2⟩, h⟩
    · refine r_isi (.ty _) (.base (.int i)) (kit_ty rfl) ?_
      walk_at "wi"
      refine r_isi (.ty _) (.base (.int i)) (kit_ty rfl) ?_
      walk_at "wi"
      exact h 0
    · refine r_isi (.ty _) ty e1 ?_
      walk_at "wi"
      refine ⟨fun hb => ?_, fun hb => h 0⟩
      walk_at "wi"
      refine r_isi (.ty _) ty (e2 hb) ?_
      walk_at "wi"
      exact h 0
theorem ok_is_from (T : Tx K mg) : FnOk P w K mg base CX0 2 T.f_is_from T.d_is_from ["value", "least", "most"] (liftX (bFrom K)) := by
  refine T.F_is_from.ok sc_is_from (fun vs H Q E h => ?_) (fun cdv A outer s H vs Q E hr h => ?_)
  · obtain ⟨kn, _, _, x, lo, hi, rfl, _⟩ := h
    rfl
  · obtain ⟨kn, e, nt, x, lo, hi, rfl, h⟩ := h
    refine ⟨_, (pss_one (ps_ret (pe_and (pe_call (ok_is_whole T) (hr.mono (by decide)) (by rfl) T.g_is_whole T.F_is_whole.kp T.bd_is_whole .nil pass0 (pa_cons (pv 0) pa_nil)) (pe_one (pe_chain op_le op_le (pv 1) (pv 0) (pv 2)))))), ?_⟩
    refine body_of (pure_start e nt) ?_
    walk_at "wi"
    refine w_call mo_whole err_no ?_
    walk_at "wi"
    refine ⟨_, rfl, ?_⟩
    rcases h with ⟨i, rfl, h⟩ | ⟨o, h⟩
    · refine .inl ⟨i, rfl, ?_⟩
      walk_at "wi"
      refine ⟨fun hb => ?_, fun hb => ?_⟩
      · walk_at "wi"
        rw [hb] at h
        exact h 0
      · rw [hb] at h
        exact h 0
    · refine .inr ⟨o, ?_⟩
      walk_at "wi"
      exact h 0
end

end NN

namespace NN
open PySem PySem.Spec PyProof.Rows L2 LamX AW ClX
open Tx1 Ln
theorem ext_new {kn : Hp} {q : Addr} {o : HO} (h : kn q = none) : Ext kn (upd kn q o) := fun x u e => know h e
theorem ext_tr {a b c : Hp} (h : Ext a b) (k : Ext b c) : Ext a c := fun x o e => k x o (h x o e)
theorem ext_rf {a : Hp} : Ext a a := fun _ _ h => h
theorem free_ext {kn kn' : Hp} {q : Addr} (x : Ext kn kn') (h : kn' q = none) : kn q = none := by
  cases z : kn q with
  | none => rfl
  | some o => rw [x _ _ z] at h; cases h
abbrev natV (xs : List Nat) : List V := xs.map fun (n : Nat) => V.int n
abbrev blV (t : List Bool) : List V := t.map V.bl
/-- any value of those that are told -/
def AnyN (K : PySem.W.Frag) (kn : Hp) (x : V) : Prop := (∃ i, x = .int i) ∨ Odd K kn x
theorem any_ext {K : PySem.W.Frag} {kn kn' : Hp} {x : V} (e : Ext kn kn') (h : AnyN K kn x) : AnyN K kn' x := h.imp id (odd_ext e)
def okV (lo hi : Int) : V → Bool
  | .int i => decide (lo ≤ i) && decide (i ≤ hi)
  | _ => false
/-- what may stand for rests: a list or a tuple, its items; or none of both -/
def RestsV (K : PySem.W.Frag) (kn : Hp) (v : V) : Option (List V) → Prop
  | some xs => SeqV K kn v xs ∧ xs.length ≤ 1000 ∧ ∀ x ∈ xs, AnyN K kn x
  | none => ∃ t, TyX K kn v t ∧ PySem.W.kitOne K t (.type "list") = some false ∧ PySem.W.kitOne K t (.type "tuple") = some false
theorem rests_ext {K : PySem.W.Frag} {kn kn' : Hp} {v : V} {o : Option (List V)} (e : Ext kn kn') (h : RestsV K kn v o) : RestsV K kn' v o := by
  cases o with
  | none => obtain ⟨t, a, b, c⟩ := h; exact ⟨t, tyx_ext e a, b, c⟩
  | some xs => obtain ⟨a, b, c⟩ := h; exact ⟨SeqV.ext e a, b, fun x hx => any_ext e (c x hx)⟩
def okO (lo hi : Int) : Option (List V) → Bool
  | some xs => xs.all (okV lo hi)
  | none => false
def bAre (K : PySem.W.Frag) : List V → Hp → AK → AXK → Prop := fun vs kn Q _ => ∃ v o lo hi, vs = [v, .int lo, .int hi] ∧ RestsV K kn v o ∧ ∀ k', Ext kn k' → Q (.bl (okO lo hi o)) k'
theorem mo_are {K : PySem.W.Frag} : MonoX (bAre K) := by
  rintro vs kn Q R E F h1 h2 ⟨v, xs, lo, hi, a, b, h⟩
  exact ⟨v, xs, lo, hi, a, b, fun k e => h1 _ _ (h k e)⟩
theorem okV_odd {K : PySem.W.Frag} {kn : Hp} {x : V} {lo hi : Int} (h : Odd K kn x) : okV lo hi x = false := by
  cases x with
  | int i =>
    obtain ⟨t, bi, ty, k1, k2⟩ := h
    exfalso
    have tt : t = .type "int" := by
      cases ty with
      | base b => cases b; rfl
    subst tt
    have e1 : PySem.W.kitOne K (.type "int") (.type "int") = some true := kit_ty rfl
    rw [e1] at k1
    have e2 : PySem.W.kitOne K (.type "int") (.type "bool") = some false := kit_ty rfl
    have e3 := k2 (Option.some.inj k1).symm
    rw [e2] at e3
    cases e3
  | _ => rfl
/-- an error of class B with its field -/
def BadE (B : Addr) (kn : Hp) (f : Str) (y : V) (E : AXK) : Prop := ∀ d k', Ext kn k' → kn d = none → k' d = some (.xd [(f, y)]) → E (.ref B) (some d) k'
theorem BadE.ext {B : Addr} {kn kn' : Hp} {f : Str} {y : V} {E : AXK} (e : Ext kn kn') (h : BadE B kn f y E) : BadE B kn' f y E := fun d k' x n u => h d k' (ext_tr e x) (free_ext e n) u
/-- TooMany -/
def BadTM (B : Addr) (kn : Hp) (E : AXK) : Prop := ∀ d k', Ext kn k' → kn d = none → k' d = some (.xd [("most", .int 400), ("what", .str "lengths")]) → E (.ref B) (some d) k'
theorem BadTM.ext {B : Addr} {kn kn' : Hp} {E : AXK} (e : Ext kn kn') (h : BadTM B kn E) : BadTM B kn' E := fun d k' x n u => h d k' (ext_tr e x) (free_ext e n) u
def bSize (B : Addr) : List V → Hp → AK → AXK → Prop := fun vs kn Q E => ∃ b s : Int, vs = [.int b, .int s] ∧ (b + s ≤ 400 → Q .non kn) ∧ (400 < b + s → BadTM B kn E)
theorem mo_size {B : Addr} : MonoX (bSize B) := by
  rintro vs kn Q R E F h1 h2 ⟨b, s, a, c, h⟩
  exact ⟨b, s, a, fun z => h1 _ _ (c z), fun z d k u1 u2 u3 => h2 _ _ _ (h z d k u1 u2 u3)⟩
/-- right arguments, wrong ones -/
def OkS (v : V) (st : Nat) : Prop := v = .int st ∧ st ≤ 400
def OkP (v : V) (p : Nat) : Prop := v = .int p ∧ 1 ≤ p ∧ p ≤ 400
def OkR (o : Option (List V)) (s : Nat) (xs : List Nat) : Prop := o = some (natV xs) ∧ ∀ x ∈ xs, x < s
def GoodA (vs vp : V) (ol orr : Option (List V)) (st p : Nat) (xs ys : List Nat) : Prop := OkS vs st ∧ OkR ol st xs ∧ OkP vp p ∧ OkR orr p ys
def BadA (vs vp : V) (ol orr : Option (List V)) (part : Str) : Prop :=
  (part = "start" ∧ ¬ ∃ st, OkS vs st) ∨
  (part = "low" ∧ ∃ st, OkS vs st ∧ ¬ ∃ xs, OkR ol st xs) ∨
  (part = "period" ∧ (∃ st xs, OkS vs st ∧ OkR ol st xs) ∧ ¬ ∃ p, OkP vp p) ∨
  (part = "rests" ∧ (∃ st xs, OkS vs st ∧ OkR ol st xs) ∧ ∃ p, OkP vp p ∧ ¬ ∃ ys, OkR orr p ys)
theorem OkS.uniq {v : V} {a b : Nat} (h : OkS v a) (k : OkS v b) : a = b := by
  have e := V.int.inj (h.1.symm.trans k.1)
  omega
theorem OkP.uniq {v : V} {a b : Nat} (h : OkP v a) (k : OkP v b) : a = b := by
  have e := V.int.inj (h.1.symm.trans k.1)
  omega
theorem natV_inj {a b : List Nat} (h : natV a = natV b) : a = b := (List.map_inj_right (f := fun (n : Nat) => V.int n) (fun x y e => by have := V.int.inj e; omega)).1 h
theorem OkR.uniq {o : Option (List V)} {s s' : Nat} {a b : List Nat} (h : OkR o s a) (k : OkR o s' b) : a = b := natV_inj (Option.some.inj (h.1.symm.trans k.1))
def bParts (K : PySem.W.Frag) (B : Addr) : List V → Hp → AK → AXK → Prop := fun vs kn Q E => ∃ (v lo u re : V) (ol orr : Option (List V)), vs = [v, lo, u, re] ∧ AnyN K kn v ∧ RestsV K kn lo ol ∧ AnyN K kn u ∧ RestsV K kn re orr ∧
  (∀ st p xs ys, GoodA v u ol orr st p xs ys → ∀ k', Ext kn k' → Q .non k') ∧ (∀ part, BadA v u ol orr part → BadE B kn "part" (.str part) E)
theorem mo_parts {K : PySem.W.Frag} {B : Addr} : MonoX (bParts K B) := by
  rintro vs kn Q R E F h1 h2 ⟨v, lo, u, re, ol, orr, e0, e1, e2, e3, e4, h, g⟩
  exact ⟨v, lo, u, re, ol, orr, e0, e1, e2, e3, e4, fun st p xs ys z k y => h1 _ _ (h st p xs ys z k y), fun p z d k y n w => h2 _ _ _ (g p z d k y n w)⟩
theorem nums_any {p : Nat} {K : PySem.W.Frag} {kn : Hp} : ∀ {xs : List V}, (∀ x ∈ xs, AnyN K kn x) → xs.all (okV 0 ((p : Int) - 1)) = true → ∃ ys : List Nat, xs = natV ys ∧ ∀ y ∈ ys, y < p
  | [], _, _ => ⟨[], rfl, fun y hy => (by cases hy)⟩
  | x :: xs, hn, h => by
    rw [List.all_cons, Bool.and_eq_true] at h
    obtain ⟨ys, e, hy⟩ := nums_any (fun z hz => hn z (.tail _ hz)) h.2
    rcases hn x (.head _) with ⟨i, rfl⟩ | od
    · have h1 := h.1
      simp only [okV, Bool.and_eq_true, decide_eq_true_eq] at h1
      refine ⟨i.toNat :: ys, ?_, fun y hy2 => ?_⟩
      · rw [e]
        show _ = V.int ((i.toNat : Nat) : Int) :: natV ys
        rw [Int.toNat_of_nonneg h1.1]
      · rcases List.mem_cons.1 hy2 with rfl | h3
        · omega
        · exact hy y h3
    · have := h.1
      rw [okV_odd od] at this
      cases this
theorem all_of {p : Nat} {ys : List Nat} (h : ∀ y ∈ ys, y < p) : (natV ys).all (okV 0 ((p : Int) - 1)) = true := by
  rw [List.all_map, List.all_eq_true]
  intro y hy
  have := h y hy
  show okV 0 ((p : Int) - 1) (.int (y : Int)) = true
  simp only [okV, Bool.and_eq_true, decide_eq_true_eq]
  omega
/-- okO tells just the right lists -/
theorem okO_true {K : PySem.W.Frag} {kn : Hp} {v : V} {o : Option (List V)} {p : Nat} (r : RestsV K kn v o) (h : okO 0 ((p : Int) - 1) o = true) : ∃ ys, OkR o p ys := by
  cases o with
  | none => cases h
  | some xs =>
    obtain ⟨ys, rfl, hy⟩ := nums_any r.2.2 h
    exact ⟨ys, rfl, hy⟩
theorem okO_false {o : Option (List V)} {p : Nat} (h : okO 0 ((p : Int) - 1) o = false) : ¬ ∃ ys, OkR o p ys := by
  rintro ⟨ys, rfl, hy⟩
  have h : (natV ys).all (okV 0 ((p : Int) - 1)) = false := h
  rw [all_of hy] at h
  cases h
theorem odd_notS {K : PySem.W.Frag} {kn : Hp} {v : V} (h : Odd K kn v) : ¬ ∃ st, OkS v st := by
  rintro ⟨st, rfl, h1⟩
  have := okV_odd (lo := 0) (hi := 400) h
  simp only [okV, Bool.and_eq_false_iff, decide_eq_false_iff_not] at this
  omega
theorem odd_notP {K : PySem.W.Frag} {kn : Hp} {v : V} (h : Odd K kn v) : ¬ ∃ p, OkP v p := by
  rintro ⟨p, rfl, h1, h2⟩
  have := okV_odd (lo := 1) (hi := 400) h
  simp only [okV, Bool.and_eq_false_iff, decide_eq_false_iff_not] at this
  omega
section
variable {P : Program} {w : World} {K : PySem.W.Frag} {mg : Str → Option Value} {base : Heap}
theorem ok_are_from (T : Tx K mg) : FnOk P w K mg base CX0 3 T.f_are_from T.d_are_from ["values", "least", "most"] (liftX (bAre K)) := by
  refine T.F_are_from.ok sc_are_from (fun vs H Q E h => ?_) (fun cdv A outer s H vs Q E hr h => ?_)
  · obtain ⟨kn, _, _, v, xs, lo, hi, rfl, _⟩ := h
    rfl
  · obtain ⟨kn, ex, nt, v, o, lo, hi, rfl, sv, h⟩ := h
    refine ⟨_, (pss_one (ps_ret (pe_and (pe_callB call_isiT (by rfl) T.b_isinstance (by decide +kernel) (pa_cons (pv 0) (pa_cons (pe_tup (pa_cons (pe_bltn (v := .ty "list") (u := .type "list") (by rfl) T.b_list (by decide +kernel) rfl) (pa_cons (pe_bltn (v := .ty "tuple") (u := .type "tuple") (by rfl) T.b_tuple (by decide +kernel) rfl) pa_nil))) pa_nil))) (pe_one (pe_callB (c_allQ rfl) (by rfl) T.b_all (by decide +kernel) (pa_cons (pe_lc (own := [("value", 3)]) (g := gName 3) (by rfl) sc_are_from.nd (pi_seq (pv 0)) (blkOk_by (own := [("value", 3)]) (N := ["values", "least", "most", "value"]) (sc := defScope s_are_from) (by decide +kernel)) (fun _ _ _ _ _ => pg_name (i := 3) sc_are_from.nd rfl (Or.inl rfl)) (fun _ _ _ _ _ => pts_nil) (fun _ _ _ _ _ => (pe_call (ok_is_from T) (hr.mono (by decide)) (by rfl) T.g_is_from T.F_is_from.kp T.bd_is_from .nil pass0 (pa_cons (pv 3) (pa_cons (pv 1) (pa_cons (pv 2) pa_nil)))))) pa_nil)))))), ?_⟩
    refine body_of (pure_start ex nt) ?_
    walk_at "wi"
    refine ⟨show 2 ≤ 1000 by decide, fun tp htp => ?_⟩
    have e1 : Ext kn (upd kn tp (.tup [.ty "list", .ty "tuple"])) := ext_new htp
    have t1 : (upd kn tp (.tup [.ty "list", .ty "tuple"])) tp = some (.tup [.ty "list", .ty "tuple"]) := upd_same
    have sv1 := rests_ext e1 sv
    generalize upd kn tp (.tup [.ty "list", .ty "tuple"]) = kn1 at e1 t1 sv1 ⊢
    cases o with
    | none =>
      obtain ⟨t, ty, z1, z2⟩ := sv1
      have kt : PySem.W.kitAny K t [.type "list", .type "tuple"] = some false := by
        unfold PySem.W.kitAny
        rw [z1]
        unfold PySem.W.kitAny
        rw [z2]
        unfold PySem.W.kitAny
        rfl
      walk_at "wi"
      refine r_isiT t1 (.cons (.ty _) (.cons (.ty _) .nil)) ty kt ?_
      walk_at "wi"
      exact h _ e1 0
    | some xs =>
      obtain ⟨sv1, lx, hx⟩ := sv1
      have kt : ∀ {t : Value}, TyX K kn1 v t → (t = .type "list" ∨ t = .type "tuple") → PySem.W.kitAny K t [.type "list", .type "tuple"] = some true := fun {t} _ ht => by
        rcases ht with rfl | rfl
        · unfold PySem.W.kitAny
          rw [kit_ty rfl]
        · unfold PySem.W.kitAny
          rw [show PySem.W.kitOne K (.type "tuple") (.type "list") = some false from kit_ty rfl]
          unfold PySem.W.kitAny
          rw [kit_ty rfl]
      obtain ⟨t, ty, ht⟩ : ∃ t, TyX K kn1 v t ∧ (t = .type "list" ∨ t = .type "tuple") := sv1.ty.elim (fun z => ⟨_, z, .inl rfl⟩) (fun z => ⟨_, z, .inr rfl⟩)
      walk_at "wi"
      refine r_isiT t1 (.cons (.ty _) (.cons (.ty _) .nil)) ty (kt ty ht) ?_
      walk_at "wi"
      refine w_lcP (i_seq3 rfl ext_rf sv1 fun J ka G hka => ?_)
      refine ⟨_, ka, fun x => .bl (okV lo hi x), fun _ => true, G, by omega, hka, fun x hx2 k ek => ?_, fun D hD => ?_⟩
      · walk_at "w"
        refine ⟨rfl, w_yesT ?_⟩
        refine ⟨rfl, rfl, rfl, fun _ => ?_⟩
        walk_at "w"
        refine w_call mo_from err_no ?_
        walk_at "w"
        rcases hx x hx2 with ⟨i, rfl⟩ | od
        · exact ⟨_, _, _, rfl, .inl ⟨_, rfl, rfl, rfl, rfl⟩⟩
        · refine ⟨_, _, _, rfl, .inr ⟨odd_ext ek od, ?_, rfl, rfl⟩⟩
          rw [okV_odd od]
      · walk_at "wi"
        have e : (List.map (fun x => V.bl (okV lo hi x)) (List.filter (fun _ => true) xs)) = (xs.map (okV lo hi)).map V.bl := by
          rw [List.filter_eq_self.2 (fun _ _ => rfl), List.map_map]
          rfl
        rw [e]
        refine r_allQ upd_same ?_
        rw [show (xs.map (okV lo hi)).all id = okO lo hi (some xs) by rw [List.all_map]; rfl]
        exact h _ (ext_tr e1 (ext_new hD)) 0
theorem ok_TooMany___init__ (T : Tx K mg) : FnOk P w K mg base CX0 1 T.f_TooMany___init__ T.d_TooMany___init__ ["self", "what", "most"] (spX2 K "what" "most") := by
  refine T.F_TooMany___init__.ok sc_TooMany___init__ (fun vs H Q E h => ?_) (fun cdv A outer s H vs Q E hr h => ?_)
  · obtain ⟨a, C, y, z, rfl, _⟩ := h
    rfl
  · obtain ⟨a, C, y, z, rfl, oc, hf, hg, ha, h⟩ := h
    refine ⟨_, (pss_cons (ps_ost (pv 0) (pv 1))
       (pss_one (ps_ost (pv 0) (pv 2)))), ?_⟩
    refine ⟨_, rfl, _, rfl, a, C, rfl, oc, hf, .inl ⟨ha, fun dx hd hda => ?_⟩⟩
    refine ⟨_, rfl, _, rfl, a, C, rfl, oc, hg, .inr ⟨dx, [("what", y)], upd_same, ?_, (show 1 ≤ 900 by decide), h dx hd hda⟩⟩
    rw [upd_ne hda, upd_same]
theorem ok_BadLengths___init__ (T : Tx K mg) : FnOk P w K mg base CX0 1 T.f_BadLengths___init__ T.d_BadLengths___init__ ["self", "part"] (spX1 K "part") := by
  refine T.F_BadLengths___init__.ok sc_BadLengths___init__ (fun vs H Q E h => ?_) (fun cdv A outer s H vs Q E hr h => ?_)
  · obtain ⟨a, C, y, rfl, _⟩ := h
    rfl
  · obtain ⟨a, C, y, rfl, oc, hf, ha, h⟩ := h
    refine ⟨_, (pss_one (ps_ost (pv 0) (pv 1))), ?_⟩
    refine ⟨_, rfl, _, rfl, a, C, rfl, oc, hf, .inl ⟨ha, h⟩⟩
theorem ok_check_size (T : Tx K mg) : FnOk P w K mg base (L2N.CX P w) 3 T.f_check_size T.d_check_size ["start", "period"] (liftX (bSize T.c_TooMany)) := by
  refine T.F_check_size.okXN sc_check_size (fun vs H Q E h => ?_) (fun cdv A outer s H vs Q E hr h => ?_)
  · obtain ⟨kn, _, _, b, s, rfl, _⟩ := h
    rfl
  · obtain ⟨kn, ex, nt, b, s, rfl, h, hb⟩ := h
    refine ⟨_, (pss_one (ps_if (pt_cmpR op_gt (pe_op op_add (pv 0) (pv 1)) (pe_cval (pe_glob (v := .ref T.c_Lengths) (by rfl) T.g_Lengths rfl)) (nomark _))
       (pss_one (L2N.ps_raise rfl (L2N.takes_of rfl rfl rfl rfl) (pmkN_oex T.x_TooMany T.fi_TooMany___init__ T.ti_TooMany (ok_TooMany___init__ T) (hr.mono (by decide)) T.bd_TooMany___init__ .nil pass0 (by rfl) T.g_TooMany (pa_cons pe_str (pa_cons (pe_cval (pe_glob (v := .ref T.c_Lengths) (by rfl) T.g_Lengths rfl)) pa_nil)))))
       pss_nil)), ?_⟩
    refine body_of (pure_start ex nt) ?_
    obtain ⟨mu, hmu⟩ := T.cv_Lengths_MOST
    walk_at "wi"
    refine ⟨_, _, _, _, rfl, T.cr_Lengths, hmu, ?_⟩
    walk_at "wi"
    refine ⟨fun h1 => ?_, fun h1 => ?_⟩
    · have h1 : 400 < b + s := by have := of_decide_eq_true h1; omega
      walk_at "wi"
      refine s_raise2 T.x_TooMany T.nx_TooMany_what T.nx_TooMany_most err_body ?_
      walk_at "w"
      refine ⟨_, _, _, _, rfl, T.cr_Lengths, hmu, ?_⟩
      walk_at "w"
      exact ⟨_, _, rfl, fun d hd => hb h1 d _ (ext_new hd) hd upd_same 0⟩
    · have h1 : b + s ≤ 400 := by have := of_decide_eq_false h1; omega
      walk_at "wi"
      exact h h1 0
theorem ok_check_parts (T : Tx K mg) : FnOk P w K mg base (L2N.CX P w) 4 T.f_check_parts T.d_check_parts ["start", "low", "period", "rests"] (liftX (bParts K T.c_BadLengths)) := by
  refine T.F_check_parts.okXN sc_check_parts (fun vs H Q E h => ?_) (fun cdv A outer s H vs Q E hr h => ?_)
  · obtain ⟨kn, _, _, v, lo, u, re, ol, orr, rfl, _⟩ := h
    rfl
  · obtain ⟨kn, ex, nt, v, lo, u, re, ol, orr, rfl, av, rl, au, rr, h, g⟩ := h
    refine ⟨_, (pss_cons (ps_if (pt_not (pt_val (pe_call (ok_is_from T) (hr.mono (by decide)) (by rfl) T.g_is_from T.F_is_from.kp T.bd_is_from .nil pass0 (pa_cons (pv 0) (pa_cons pe_int (pa_cons (pe_cval (pe_glob (v := .ref T.c_Lengths) (by rfl) T.g_Lengths rfl)) pa_nil))))))
       (pss_one (L2N.ps_raise rfl (L2N.takes_of rfl rfl rfl rfl) (pmkN_oex T.x_BadLengths T.fi_BadLengths___init__ T.ti_BadLengths (ok_BadLengths___init__ T) (hr.mono (by decide)) T.bd_BadLengths___init__ .nil pass0 (by rfl) T.g_BadLengths (pa_cons pe_str pa_nil))))
       pss_nil)
       (pss_cons (ps_if (pt_not (pt_val (pe_call (ok_are_from T) (hr.mono (by decide)) (by rfl) T.g_are_from T.F_are_from.kp T.bd_are_from .nil pass0 (pa_cons (pv 1) (pa_cons pe_int (pa_cons (pe_op op_sub (pv 0) pe_int) pa_nil))))))
       (pss_one (L2N.ps_raise rfl (L2N.takes_of rfl rfl rfl rfl) (pmkN_oex T.x_BadLengths T.fi_BadLengths___init__ T.ti_BadLengths (ok_BadLengths___init__ T) (hr.mono (by decide)) T.bd_BadLengths___init__ .nil pass0 (by rfl) T.g_BadLengths (pa_cons pe_str pa_nil))))
       pss_nil)
       (pss_cons (ps_if (pt_not (pt_val (pe_call (ok_is_from T) (hr.mono (by decide)) (by rfl) T.g_is_from T.F_is_from.kp T.bd_is_from .nil pass0 (pa_cons (pv 2) (pa_cons pe_int (pa_cons (pe_cval (pe_glob (v := .ref T.c_Lengths) (by rfl) T.g_Lengths rfl)) pa_nil))))))
       (pss_one (L2N.ps_raise rfl (L2N.takes_of rfl rfl rfl rfl) (pmkN_oex T.x_BadLengths T.fi_BadLengths___init__ T.ti_BadLengths (ok_BadLengths___init__ T) (hr.mono (by decide)) T.bd_BadLengths___init__ .nil pass0 (by rfl) T.g_BadLengths (pa_cons pe_str pa_nil))))
       pss_nil)
       (pss_one (ps_if (pt_not (pt_val (pe_call (ok_are_from T) (hr.mono (by decide)) (by rfl) T.g_are_from T.F_are_from.kp T.bd_are_from .nil pass0 (pa_cons (pv 3) (pa_cons pe_int (pa_cons (pe_op op_sub (pv 2) pe_int) pa_nil))))))
       (pss_one (L2N.ps_raise rfl (L2N.takes_of rfl rfl rfl rfl) (pmkN_oex T.x_BadLengths T.fi_BadLengths___init__ T.ti_BadLengths (ok_BadLengths___init__ T) (hr.mono (by decide)) T.bd_BadLengths___init__ .nil pass0 (by rfl) T.g_BadLengths (pa_cons pe_str pa_nil))))
       pss_nil))))), ?_⟩
    refine body_of (pure_start ex nt) ?_
    obtain ⟨mu, hmu⟩ := T.cv_Lengths_MOST
    walk_at "wi"
    refine w_call mo_from err_no ?_
    walk_at "w"
    refine ⟨_, _, _, _, rfl, T.cr_Lengths, hmu, ?_⟩
    walk_at "w"
    rcases av with ⟨i, rfl⟩ | od
    · refine ⟨_, _, _, rfl, .inl ⟨_, rfl, ?_⟩⟩
      walk_at "wi"
      refine ⟨fun hb => ?_, fun hb => ?_⟩
      · have nb : BadA (.int i) u ol orr "start" := by
          refine .inl ⟨rfl, ?_⟩
          rintro ⟨st, e, s1⟩
          have e : i = st := V.int.inj e
          rw [decide_eq_true (show (0 : Int) ≤ i by omega), decide_eq_true (show i ≤ 400 by omega)] at hb
          cases hb
        walk_at "wi"
        refine s_raise1 T.x_BadLengths T.nx_BadLengths_part err_body ?_
        walk_at "wi"
        exact fun d hd => g _ nb d _ (ext_new hd) hd upd_same 0
      · have hb : 0 ≤ i ∧ i ≤ 400 := by
          have hb : (decide (0 ≤ i) && decide (i ≤ 400)) = true := by simpa using hb
          rw [Bool.and_eq_true, decide_eq_true_eq, decide_eq_true_eq] at hb
          exact hb
        obtain ⟨st, rfl⟩ : ∃ st : Nat, i = st := ⟨i.toNat, by omega⟩
        have oS : OkS (.int (st : Int)) st := ⟨rfl, by omega⟩
        walk_at "wi"
        refine w_call mo_are err_no ?_
        walk_at "w"
        refine ⟨_, ol, _, _, rfl, rl, fun k1 e1 => ?_⟩
        walk_at "wi"
        refine ⟨fun hb2 => ?_, fun hb2 => ?_⟩
        · have nb : BadA (.int (st : Int)) u ol orr "low" := .inr (.inl ⟨rfl, st, oS, okO_false (by simpa using hb2)⟩)
          walk_at "wi"
          refine s_raise1 T.x_BadLengths T.nx_BadLengths_part err_body ?_
          walk_at "wi"
          exact fun d hd => g _ nb d _ (ext_tr e1 (ext_new hd)) (free_ext e1 hd) upd_same 0
        · obtain ⟨xs, oL⟩ := okO_true (p := st) rl (by simpa using hb2)
          walk_at "wi"
          refine w_call mo_from err_no ?_
          walk_at "w"
          refine ⟨_, _, _, _, rfl, T.cr_Lengths, hmu, ?_⟩
          walk_at "w"
          rcases au with ⟨j, rfl⟩ | od2
          · refine ⟨_, _, _, rfl, .inl ⟨_, rfl, ?_⟩⟩
            walk_at "wi"
            refine ⟨fun hb3 => ?_, fun hb3 => ?_⟩
            · have nb : BadA (.int (st : Int)) (.int j) ol orr "period" := by
                refine .inr (.inr (.inl ⟨rfl, ⟨st, xs, oS, oL⟩, ?_⟩))
                rintro ⟨p, e, p1, p2⟩
                have e : j = p := V.int.inj e
                rw [decide_eq_true (show (1 : Int) ≤ j by omega), decide_eq_true (show j ≤ 400 by omega)] at hb3
                cases hb3
              walk_at "wi"
              refine s_raise1 T.x_BadLengths T.nx_BadLengths_part err_body ?_
              walk_at "wi"
              exact fun d hd => g _ nb d _ (ext_tr e1 (ext_new hd)) (free_ext e1 hd) upd_same 0
            · have hb3 : 1 ≤ j ∧ j ≤ 400 := by
                have hb3 : (decide (1 ≤ j) && decide (j ≤ 400)) = true := by simpa using hb3
                rw [Bool.and_eq_true, decide_eq_true_eq, decide_eq_true_eq] at hb3
                exact hb3
              obtain ⟨p, rfl⟩ : ∃ p : Nat, j = p := ⟨j.toNat, by omega⟩
              have oP : OkP (.int (p : Int)) p := ⟨rfl, by omega, by omega⟩
              walk_at "wi"
              refine w_call mo_are err_no ?_
              walk_at "w"
              refine ⟨_, orr, _, _, rfl, rests_ext e1 rr, fun k2 e2 => ?_⟩
              walk_at "wi"
              refine ⟨fun hb4 => ?_, fun hb4 => ?_⟩
              · have nb : BadA (.int (st : Int)) (.int (p : Int)) ol orr "rests" := .inr (.inr (.inr ⟨rfl, ⟨st, xs, oS, oL⟩, p, oP, okO_false (by simpa using hb4)⟩))
                walk_at "wi"
                refine s_raise1 T.x_BadLengths T.nx_BadLengths_part err_body ?_
                walk_at "wi"
                exact fun d hd => g _ nb d _ (ext_tr (ext_tr e1 e2) (ext_new hd)) (free_ext (ext_tr e1 e2) hd) upd_same 0
              · obtain ⟨ys, oR⟩ := okO_true (p := p) rr (by simpa using hb4)
                walk_at "wi"
                exact h st p xs ys ⟨oS, oL, oP, oR⟩ _ (ext_tr e1 e2) 0
          · refine ⟨_, _, _, rfl, .inr ⟨odd_ext e1 od2, ?_⟩⟩
            walk_at "wi"
            refine s_raise1 T.x_BadLengths T.nx_BadLengths_part err_body ?_
            walk_at "wi"
            exact fun d hd => g _ (.inr (.inr (.inl ⟨rfl, ⟨st, xs, oS, oL⟩, odd_notP od2⟩))) d _ (ext_tr e1 (ext_new hd)) (free_ext e1 hd) upd_same 0
    · refine ⟨_, _, _, rfl, .inr ⟨od, ?_⟩⟩
      walk_at "wi"
      refine s_raise1 T.x_BadLengths T.nx_BadLengths_part err_body ?_
      walk_at "wi"
      exact fun d hd => g _ (.inl ⟨rfl, odd_notS od⟩) d _ (ext_new hd) hd upd_same 0
end

end NN

namespace NN
open PySem PySem.Spec PyProof.Rows L2 LamX AW ClX
open Tx1 Ln
theorem ixN_of {n j : Nat} (hj : j < n) : ixN n (j : Int) = some j := by
  unfold ixN
  rw [if_pos (by omega), if_pos (by omega), Int.toNat_natCast]
theorem cut_lo (xs : List V) (p : Nat) : cutV xs (some (p : Int)) none = xs.drop p := by
  unfold cutV
  rw [HT.sIx_nat, HT.sIx_none]
  apply List.ext_getElem?
  intro i
  rw [List.getElem?_take, List.getElem?_drop, List.getElem?_drop]
  by_cases h : p ≤ xs.length
  · rw [Nat.min_eq_left h]
    by_cases h2 : i < xs.length - p
    · rw [if_pos h2]
    · rw [if_neg h2, List.getElem?_eq_none (by omega)]
  · rw [Nat.min_eq_right (by omega), if_neg (by omega), List.getElem?_eq_none (by omega)]
theorem cut_hi (xs : List V) (p : Nat) : cutV xs none (some (p : Int)) = xs.take p := by
  unfold cutV
  rw [HT.sIx_nat, HT.sIx_none, List.drop_zero, Nat.sub_zero]
  by_cases h : p ≤ xs.length
  · rw [Nat.min_eq_left h]
  · rw [Nat.min_eq_right (by omega), List.take_of_length_le (by omega), List.take_of_length_le (by omega)]
theorem dp_bls {K : PySem.W.Frag} {H : Hp} : ∀ t : List Bool, DpAll K H (blV t) (t.map PyData.bool)
  | [] => .nil
  | b :: t => .cons (.bl b) (dp_bls t)
theorem lay_bls : ∀ t : List Bool, PyData.canLayAll0 (t.map PyData.bool) = true
  | [] => by simp [PyData.canLayAll0]
  | b :: t => by simp only [List.map_cons, PyData.canLayAll0, PyData.canLay0]; rw [lay_bls t]; rfl
theorem deep_bls : ∀ t : List Bool, PyData.depthAll (t.map PyData.bool) = 0
  | [] => by simp [PyData.depthAll]
  | b :: t => by simp only [List.map_cons, PyData.depthAll, PyData.depth]; rw [deep_bls t]; rfl
theorem shaped_bls (t : List Bool) : SeqAt.shaped (.list (t.map PyData.bool)) = true := by
  unfold SeqAt.shaped
  rw [show PyData.canLay0 (.list (t.map PyData.bool)) = true by simp only [PyData.canLay0]; exact lay_bls t, show PyData.depth (.list (t.map PyData.bool)) = 1 by simp only [PyData.depth]; rw [deep_bls t]]
  rfl
theorem shaped_blT (t : List Bool) : SeqAt.shaped (.tuple (t.map PyData.bool)) = true := by
  unfold SeqAt.shaped
  rw [show PyData.canLay0 (.tuple (t.map PyData.bool)) = true by simp only [PyData.canLay0]; exact lay_bls t, show PyData.depth (.tuple (t.map PyData.bool)) = 1 by simp only [PyData.depth]; rw [deep_bls t]]
  rfl
theorem eqv_bls : ∀ a b : List Bool, PyData.eqvAll (a.map PyData.bool) (b.map PyData.bool) = decide (a = b)
  | [], [] => by simp [PyData.eqvAll]
  | [], _ :: _ => by simp [PyData.eqvAll]
  | _ :: _, [] => by simp [PyData.eqvAll]
  | x :: a, y :: b => by
    simp only [List.map_cons, PyData.eqvAll, PyData.eqv, eqv_bls a b]
    cases x <;> cases y <;> simp
theorem eqv_blL (a b : List Bool) : PyData.eqv (.list (a.map PyData.bool)) (.list (b.map PyData.bool)) = decide (a = b) := by
  simp only [PyData.eqv]
  exact eqv_bls a b
theorem eqv_blT (a b : List Bool) : PyData.eqv (.tuple (a.map PyData.bool)) (.tuple (b.map PyData.bool)) = decide (a = b) := by
  simp only [PyData.eqv]
  exact eqv_bls a b
theorem mask_set {size n : Nat} {ys : List Nat} (h : n < size) : (maskOf size ys).set n true = maskOf size (ys ++ [n]) := by
  apply ext_ix (by rw [List.length_set, mask_len, mask_len])
  intro i hi
  rw [List.length_set, mask_len] at hi
  rw [ix_mask hi]
  unfold ix
  rw [List.getD_eq_getElem?_getD, List.getElem?_set, mask_len]
  by_cases e : n = i
  · subst e
    simp [h]
  · rw [if_neg e, ← List.getD_eq_getElem?_getD]
    show ix (maskOf size ys) i = _
    rw [ix_mask hi]
    refine decide_eq_decide.2 ?_
    simp only [List.mem_append, List.mem_singleton]
    constructor
    · exact .inl
    · rintro (h | h)
      · exact h
      · exact absurd h.symm e
theorem mask_nil (size : Nat) : (List.replicate size [V.bl false]).flatten = blV (maskOf size []) := by
  unfold blV maskOf
  rw [List.map_map]
  induction size with
  | zero => rfl
  | succ m ih =>
    rw [List.replicate_succ', List.flatten_append, ih, List.range_succ, List.map_append]
    rfl
theorem int_eq {i j : Int} : decide (V.int i = V.int j) = decide (i = j) := decide_eq_decide.mpr ⟨V.int.inj, congrArg _⟩
def bMarked (K : PySem.W.Frag) : List V → Hp → AK → AXK → Prop := fun vs kn Q _ => ∃ (size : Nat) (v : V) (xs : List Nat), vs = [.int size, v] ∧ SeqV K kn v (natV xs) ∧ xs.length ≤ 1000 ∧ size ≤ 1000 ∧ (∀ n ∈ xs, n < size) ∧
  ∀ q k', Ext kn k' → kn q = none → k' q = some (.lst (blV (maskOf size xs))) → Q (.ref q) k'
theorem mo_marked {K : PySem.W.Frag} : MonoX (bMarked K) := by
  rintro vs kn Q R E F h1 h2 ⟨size, v, xs, a, b, c, d, e, h⟩
  exact ⟨size, v, xs, a, b, c, d, e, fun q k z1 z2 z3 => h1 _ _ (h q k z1 z2 z3)⟩
def bLeast : List V → Hp → AK → AXK → Prop := fun vs kn Q _ => ∃ (a : Addr) (t : List Bool), vs = [.ref a] ∧ kn a = some (.lst (blV t)) ∧ 1 ≤ t.length ∧ t.length ≤ 500 ∧ ∀ k', Ext kn k' → Q (.int (leastP t)) k'
theorem mo_least : MonoX bLeast := by
  rintro vs kn Q R E F h1 h2 ⟨a, t, b, c, d, e, h⟩
  exact ⟨a, t, b, c, d, e, fun k z => h1 _ _ (h k z)⟩
section
variable {P : Program} {w : World} {K : PySem.W.Frag} {mg : Str → Option Value} {base : Heap}
theorem ok_marked (T : Tx K mg) : FnOk P w K mg base CX0 1 T.f_marked T.d_marked ["size", "numbers"] (liftX (bMarked K)) := by
  refine T.F_marked.ok sc_marked (fun vs H Q E h => ?_) (fun cdv A outer s H vs Q E hr h => ?_)
  · obtain ⟨kn, _, _, size, v, xs, rfl, _⟩ := h
    rfl
  · obtain ⟨kn, ex, nt, size, v, xs, rfl, sv, lx, ls, mx, h⟩ := h
    refine ⟨_, (pss_cons (ps_set (i := 2) sc_marked.nd rfl (by first | exact Or.inl rfl | exact Or.inr rfl) (pe_op op_repQ (pe_lst (pa_cons pe_bl pa_nil)) (pv 0)))
       (pss_cons (ps_for PassesOwn.never rfl (pi_seq (pv 1)) (pg_name (i := 3) sc_marked.nd rfl (by first | exact Or.inl rfl | exact Or.inr rfl))
       (pss_one (ps_asg pe_bl (pg_sub (pv 2) (pv 3) set_list))))
       (pss_one (ps_ret (pv 2))))), ?_⟩
    refine body_of (pure_start ex nt) ?_
    walk_at "wi"
    refine ⟨show 1 ≤ 1000 by decide, fun l hl => ?_⟩
    walk_at "wi"
    refine r_repQ upd_same (by omega) (by omega) (by show 1 * _ ≤ _; omega) fun p hp => ?_
    rw [Int.toNat_natCast, mask_nil]
    have e1 : Ext kn (upd (upd kn l (.lst [.bl false])) p (.lst (blV (maskOf size [])))) := ext_tr (ext_new hl) (ext_new hp)
    have hp0 := free_ext (ext_new hl) hp
    have p1 : (upd (upd kn l (.lst [.bl false])) p (.lst (blV (maskOf size [])))) p = some (.lst (blV (maskOf size []))) := upd_same
    generalize upd (upd kn l (.lst [.bl false])) p (.lst (blV (maskOf size []))) = kn1 at e1 p1 ⊢
    walk_at "wi"
    refine s_forJ (i_seq3 rfl e1 sv fun J ka G hka => ?_)
    refine ⟨_, ka, fun j σ' k m => m = 0 ∧ (∃ y3, σ' = [some (.int size), some v, some (.ref p), y3]) ∧ Ext kn k ∧ k p = some (.lst (blV (maskOf size (xs.take j)))), G, ⟨rfl, ⟨_, rfl⟩, e1, p1⟩, fun j σ' k m hh => hka _ hh.2.2.1, ?_, ?_⟩
    · rintro j x σ' k m hx ⟨rfl, ⟨y3, rfl⟩, ek, kp⟩
      rw [List.getElem?_map] at hx
      obtain ⟨n, hn, rfl⟩ := Option.map_eq_some_iff.1 hx
      have hs := mx n (List.mem_of_getElem? hn)
      walk_at "wi"
      refine ⟨p, _, _, n, rfl, rfl, kp, ixN_of (by rw [List.length_map, mask_len]; exact hs), ?_⟩
      walk_at "wi"
      refine ⟨rfl, ⟨_, rfl⟩, fun y o hy => ?_, ?_⟩
      · rw [upd_ne (fun z => by rw [z, hp0] at hy; cases hy)]
        exact ek y o hy
      · rw [upd_same, List.take_add_one, hn, show (some n).toList = [n] from rfl, ← mask_set hs]
        show some (HO.lst ((List.map V.bl (maskOf size (List.take j xs))).set n (V.bl true))) = _
        rw [← List.map_set]
    · rintro σ' k m ⟨rfl, ⟨y3, rfl⟩, ek, kp⟩
      walk_at "wi"
      rw [List.length_map, List.take_length] at kp
      exact h p k ek hp0 kp 0
theorem ok_least_period (T : Tx K mg) : FnOk P w K mg base CX0 1 T.f_least_period T.d_least_period ["turn"] (liftX bLeast) := by
  refine T.F_least_period.ok sc_least_period (fun vs H Q E h => ?_) (fun cdv A outer s H vs Q E hr h => ?_)
  · obtain ⟨kn, _, _, a, t, rfl, _⟩ := h
    rfl
  · obtain ⟨kn, ex, nt, a, t, rfl, ha, l1, l2, h⟩ := h
    refine ⟨_, (pss_cons (ps_set (i := 1) sc_least_period.nd rfl (by first | exact Or.inl rfl | exact Or.inr rfl) (pe_callB c_len (by rfl) T.b_len PySem.boot_len (pa_cons (pv 0) pa_nil)))
       (pss_cons (ps_for PassesOwn.never rfl (pi_range2 (by rfl) T.b_range (pa_cons pe_int (pa_cons (pv 1) pa_nil))) (pg_name (i := 2) sc_least_period.nd rfl (by first | exact Or.inl rfl | exact Or.inr rfl))
       (pss_one (ps_if (PW.pt (pw_and (pt_cmpR op_eq (pe_op op_mod (pv 1) (pv 2)) pe_int (nomark _)) (pw_and1 (pt_cmpR (show OpR _ _ (rEqD K) from op_eqD hr.units) (pe_op op_cat (pe_slice (show SlR _ (rSlL K) from sl_list) (pv 0) (po_some (pv 2)) po_none) (pe_slice (show SlR _ (rSlL K) from sl_list) (pv 0) po_none (po_some (pv 2)))) (pv 0) (nomark _)))))
       (pss_one (ps_ret (pv 2)))
       pss_nil)))
       (pss_one (ps_ret (pv 1))))), ?_⟩
    refine body_of (pure_start ex nt) ?_
    walk_at "wi"
    rw [List.length_map]
    refine s_forJ (i_rng2 ?_)
    walk_at "w"
    refine ⟨1, t.length, rfl, ⟨by decide, by decide, by omega, by omega⟩, ?_⟩
    have hm : ((t.length : Int) - 1).toNat = t.length - 1 := by omega
    rw [hm]
    refine ⟨_, (fun _ => True), fun j σ' k m => m = 0 ∧ (∃ y2, σ' = [some (.ref a), some (.int t.length), y2]) ∧ Ext kn k ∧ ∀ q, q ≤ j → isP t q = false, gives_rng, ⟨rfl, ⟨_, rfl⟩, ext_rf, fun q hq => ?_⟩, fun _ _ _ _ _ => trivial, ?_, ?_⟩
    · have : q = 0 := by omega
      subst this
      simp [isP]
    · rintro j x σ' k m hx ⟨rfl, ⟨y2, rfl⟩, ek, hp⟩
      rw [List.getElem?_map] at hx
      obtain ⟨n, hn, rfl⟩ := Option.map_eq_some_iff.1 hx
      have hj := List.getElem?_eq_some_iff.1 hn
      obtain ⟨hj1, hj2⟩ := hj
      rw [List.length_range] at hj1
      rw [List.getElem_range] at hj2
      subst hj2
      have e0 : (1 : Int) + ((j : Nat) : Int) = ((j + 1 : Nat) : Int) := by omega
      rw [e0]
      have hk := ek _ _ ha
      walk_at "wi"
      refine r_I (by omega) ?_
      walk_at "wi"
      rw [int_eq]
      refine ⟨fun hb => ?_, fun hb => ?_⟩
      · have hb := of_decide_eq_true hb
        have hd : t.length % (j + 1) = 0 := by omega
        walk_at "wi"
        refine r_slL hk fun a1 h1 => ?_
        rw [cut_lo, ← List.map_drop]
        have k1 := know (o := .lst (blV (t.drop (j + 1)))) h1 hk
        have q1 : (upd k a1 (.lst (blV (t.drop (j + 1))))) a1 = some (.lst (blV (t.drop (j + 1)))) := upd_same
        have x1 := ext_tr ek (ext_new (o := .lst (blV (t.drop (j + 1)))) h1)
        generalize upd k a1 (.lst (blV (t.drop (j + 1)))) = kA at k1 q1 x1 ⊢
        walk_at "wi"
        refine r_slL k1 fun a2 h2 => ?_
        rw [cut_hi, ← List.map_take]
        have k2 := know (o := .lst (blV (t.take (j + 1)))) h2 k1
        have q2 : (upd kA a2 (.lst (blV (t.take (j + 1))))) a2 = some (.lst (blV (t.take (j + 1)))) := upd_same
        have q1 := know (o := .lst (blV (t.take (j + 1)))) h2 q1
        have x2 := ext_tr x1 (ext_new (o := .lst (blV (t.take (j + 1)))) h2)
        generalize upd kA a2 (.lst (blV (t.take (j + 1)))) = kB at k2 q1 q2 x2 ⊢
        walk_at "wi"
        refine r_cat q1 q2 (by rw [List.length_map, List.length_map, List.length_drop, List.length_take]; omega) fun a3 h3 => ?_
        rw [← List.map_append]
        have k3 := know (o := .lst (blV (turned t (j + 1)))) h3 k2
        have q3 : (upd kB a3 (.lst (blV (turned t (j + 1))))) a3 = some (.lst (blV (turned t (j + 1)))) := upd_same
        have x3 := ext_tr x2 (ext_new (o := .lst (blV (turned t (j + 1)))) h3)
        show W _ _ (upd kB a3 (.lst (blV (turned t (j + 1))))) _ _
        generalize upd kB a3 (.lst (blV (turned t (j + 1)))) = kC at k3 q3 x3 ⊢
        walk_at "wi"
        refine r_eq_d (.lst (sql q3) (dp_bls _)) (.lst (sql k3) (dp_bls _)) (shaped_bls _) (shaped_bls _) ?_
        rw [eqv_blL]
        walk_at "wi"
        refine ⟨fun hb2 => ?_, fun hb2 => ?_⟩
        · have hb2 := of_decide_eq_true hb2
          have hl : leastP t = j + 1 := by
            have yes : isP t (j + 1) = true := by
              unfold isP
              rw [hb2]
              simp [hd]
            rcases leastP_cases t with ⟨_, f⟩ | ⟨l, q, f⟩
            · rw [f (j + 1) (by omega)] at yes; cases yes
            · rcases Nat.lt_trichotomy (leastP t) (j + 1) with z | z | z
              · rw [hp _ (by omega)] at q; cases q
              · exact z
              · rw [f _ z] at yes; cases yes
          have := h kC x3 0
          rw [hl] at this
          walk_at "wi"
          exact this
        · have hb2 := of_decide_eq_false hb2
          walk_at "wi"
          refine ⟨rfl, ⟨_, rfl⟩, x3, fun q hq => ?_⟩
          rcases Nat.lt_or_ge q (j + 1) with z | z
          · exact hp q (by omega)
          · have : q = j + 1 := by omega
            subst this
            unfold isP
            rw [decide_eq_false hb2]
            simp
      · have hb := of_decide_eq_false hb
        walk_at "wi"
        refine ⟨rfl, ⟨_, rfl⟩, ek, fun q hq => ?_⟩
        rcases Nat.lt_or_ge q (j + 1) with z | z
        · exact hp q (by omega)
        · have : q = j + 1 := by omega
          subst this
          unfold isP
          rw [decide_eq_false (show ¬ t.length % (j + 1) = 0 by omega)]
          simp
    · rintro σ' k m ⟨rfl, ⟨y2, rfl⟩, ek, hp⟩
      rw [List.length_map, List.length_range] at hp
      walk_at "wi"
      have e : leastP t = t.length := by
        rcases leastP_cases t with ⟨e, _⟩ | ⟨l, q, _⟩
        · exact e
        · rw [hp _ (by omega)] at q; cases q
      have := h k ek 0
      rw [e] at this
      exact this
end

end NN

namespace NN
open PySem PySem.Spec PyProof.Rows L2 LamX AW ClX
open Tx1 Ln
/-! ### the class -/
/-- right arguments -/
structure Args4 (K : PySem.W.Frag) (kn : Hp) (lo re : V) (st p : Nat) (xs ys : List Nat) : Prop where
  s1 : st ≤ 400
  p1 : 1 ≤ p
  p2 : p ≤ 400
  lx : xs.length ≤ 1000
  ly : ys.length ≤ 1000
  mx : ∀ n ∈ xs, n < st
  my : ∀ n ∈ ys, n < p
  vx : SeqV K kn lo (natV xs)
  vy : SeqV K kn re (natV ys)
theorem Args4.ext {K : PySem.W.Frag} {kn k : Hp} {lo re : V} {st p : Nat} {xs ys : List Nat} (e : Ext kn k) (ar : Args4 K kn lo re st p xs ys) : Args4 K k lo re st p xs ys :=
  ⟨ar.s1, ar.p1, ar.p2, ar.lx, ar.ly, ar.mx, ar.my, SeqV.ext e ar.vx, SeqV.ext e ar.vy⟩
theorem args_of {K : PySem.W.Frag} {kn : Hp} {v lo u re : V} {ol orr : Option (List V)} {st p : Nat} {xs ys : List Nat} (rl : RestsV K kn lo ol) (rr : RestsV K kn re orr) (g : GoodA v u ol orr st p xs ys) : Args4 K kn lo re st p xs ys := by
  obtain ⟨⟨rfl, s1⟩, ⟨rfl, mx⟩, ⟨rfl, p1, p2⟩, rfl, my⟩ := g
  obtain ⟨vx, lx, _⟩ := rl
  obtain ⟨vy, ly, _⟩ := rr
  rw [List.length_map] at lx ly
  exact ⟨s1, p1, p2, lx, ly, mx, my, vx, vy⟩
/-- arguments whose form is small enough -/
def Small (st p : Nat) (xs ys : List Nat) : Prop := beginOf (maskOf st xs) (maskOf p ys) (leastP (maskOf p ys)) + leastP (maskOf p ys) ≤ 400
abbrev lenF (b s : Nat) (q1 q2 q3 : Addr) : List (Str × V) := [("_start", .int b), ("_period", .int s), ("_low", .ref q1), ("_rests", .ref q2), ("_marks", .ref q3)]
structure LenAt (C : Addr) (kn : Hp) (a : Addr) (nr tn : List Bool) : Prop where
  at_ : ∃ dx q1 q2 q3, kn a = some (.ins C dx (lenF nr.length tn.length q1 q2 q3)) ∧ kn q1 = some (.tup (natV (idx nr))) ∧ kn q2 = some (.tup (natV (idx tn))) ∧ kn q3 = some (.tup (blV (marks nr tn)))
  form : Form nr tn
theorem LenAt.ext {C : Addr} {kn kn' : Hp} {a : Addr} {nr tn : List Bool} (x : Ext kn kn') (h : LenAt C kn a nr tn) : LenAt C kn' a nr tn := by
  obtain ⟨⟨dx, q1, q2, q3, a1, a2, a3, a4⟩, f⟩ := h
  exact ⟨⟨dx, q1, q2, q3, x _ _ a1, x _ _ a2, x _ _ a3, x _ _ a4⟩, f⟩
/-- known but at a -/
def KE (a : Addr) (kn k : Hp) : Prop := ∀ x o, x ≠ a → kn x = some o → k x = some o
theorem KE.rf {a : Addr} {kn : Hp} : KE a kn kn := fun _ _ _ h => h
theorem KE.ext {a : Addr} {kn k k' : Hp} (h : KE a kn k) (e : Ext k k') : KE a kn k' := fun x o n z => e _ _ (h x o n z)
theorem KE.put {a : Addr} {kn k : Hp} {o : HO} (h : KE a kn k) : KE a kn (upd k a o) := fun x u n z => by
  rw [upd_ne n]
  exact h x u n z
abbrev NewL (C : Addr) (kn : Hp) (nr tn : List Bool) (Q : AK) : Prop := ∀ x k', Ext kn k' → kn x = none → LenAt C k' x nr tn → Q (.ref x) k'
/-- the form that right arguments tell -/
def formN (st p : Nat) (xs ys : List Nat) : List Bool := (maskOf st xs).take (beginOf (maskOf st xs) (maskOf p ys) (leastP (maskOf p ys)))
def formT (p : Nat) (ys : List Nat) : List Bool := (maskOf p ys).take (leastP (maskOf p ys))
abbrev Made5 (C a dx : Addr) (k' : Hp) (nr tn : List Bool) : Prop := ∃ q1 q2 q3, k' a = some (.ins C dx (lenF nr.length tn.length q1 q2 q3)) ∧ k' q1 = some (.tup (natV (idx nr))) ∧ k' q2 = some (.tup (natV (idx tn))) ∧ k' q3 = some (.tup (blV (marks nr tn)))
def bInit (K : PySem.W.Frag) (C B BT : Addr) : List V → Hp → AK → AXK → Prop := fun vs kn Q E => ∃ (a dx : Addr) (v lo u re : V) (ol orr : Option (List V)), vs = [.ref a, v, lo, u, re] ∧ kn a = some (.ins C dx []) ∧ AnyN K kn v ∧ RestsV K kn lo ol ∧ AnyN K kn u ∧ RestsV K kn re orr ∧
  (∀ st p xs ys, GoodA v u ol orr st p xs ys → Small st p xs ys → ∀ k', KE a kn k' → Made5 C a dx k' (formN st p xs ys) (formT p ys) → Q .non k') ∧
  (∀ st p xs ys, GoodA v u ol orr st p xs ys → ¬ Small st p xs ys → BadTM BT kn E) ∧ (∀ part, BadA v u ol orr part → BadE B kn "part" (.str part) E)
theorem mo_init {K : PySem.W.Frag} {C B BT : Addr} : MonoX (bInit K C B BT) := by
  rintro vs kn Q R E F h1 h2 ⟨a, dx, v, lo, u, re, ol, orr, e0, e1, e2, e3, e4, e5, h, g, f⟩
  exact ⟨a, dx, v, lo, u, re, ol, orr, e0, e1, e2, e3, e4, e5, fun st p xs ys z y k m n => h1 _ _ (h st p xs ys z y k m n), fun st p xs ys z y d k m n w => h2 _ _ _ (g st p xs ys z y d k m n w), fun part z d k m n w => h2 _ _ _ (f part z d k m n w)⟩
theorem rng_filter {m : Nat} {p : V → Bool} {P : Nat → Bool} (h : ∀ i, i < m → p (.int (0 + ((i : Nat) : Int))) = P i) : ((List.range m).map fun (i : Nat) => V.int (0 + (i : Int))).filter p = natV ((List.range m).filter P) := by
  rw [List.filter_map]
  unfold natV
  have e : (fun (i : Nat) => V.int (0 + (i : Int))) = fun (i : Nat) => V.int (i : Int) := by funext i; rw [Int.zero_add]
  rw [e]
  congr 1
  apply List.filter_congr
  intro i hi
  have := h i (List.mem_range.1 hi)
  rw [Int.zero_add] at this
  exact this
theorem idx_take {t : List Bool} {b : Nat} (h : b ≤ t.length) : (List.range b).filter (ix t) = idx (t.take b) := by
  unfold idx
  rw [List.length_take, Nat.min_eq_left h]
  apply List.filter_congr
  intro i hi
  exact (ix_take (List.mem_range.1 hi)).symm
theorem at_bl {t : List Bool} {i : Nat} (h : i < t.length) : atI (blV t) ((i : Nat) : Int) = some (.bl (ix t i)) := by
  refine atI_nat ?_
  rw [List.getElem?_map, List.getElem?_eq_getElem h, ix_lt h]
  rfl
theorem at_last {ys : List Nat} {m : Nat} : atI (natV (ys ++ [m])) (-1) = some (.int m) := by
  unfold natV
  rw [List.map_append]
  exact atI_last _ _
theorem bl_ne {a b : Bool} : (!decide (V.bl a = V.bl b)) = (a != b) := by cases a <;> cases b <;> rfl
def pAst (near turn : List Bool) (s : Nat) : V → Bool
  | .int i => ix near i.toNat != ix turn (i.toNat % s)
  | _ => false
def pIx (t : List Bool) : V → Bool
  | .int i => ix t i.toNat
  | _ => false
def fIx (t : List Bool) (s : Nat) : V → V
  | .int i => .bl (ix t (i.toNat % s))
  | v => v
theorem begin_last {near turn : List Bool} {s : Nat} : (astray near turn s = [] ∧ beginOf near turn s = 0) ∨ ∃ ys m, astray near turn s = ys ++ [m] ∧ beginOf near turn s = m + 1 := by
  unfold beginOf
  cases h : (astray near turn s).getLast? with
  | none => exact .inl ⟨List.getLast?_eq_none_iff.1 h, rfl⟩
  | some m =>
    obtain ⟨ys, e⟩ := List.getLast?_eq_some_iff.1 h
    exact .inr ⟨ys, m, e, rfl⟩
theorem marks_take {near turn : List Bool} {b s : Nat} (hb : b ≤ near.length) (hs : s ≤ turn.length) (h0 : 0 < s) : near.take b ++ (List.range s).map (fun i => ix turn ((b + i) % s)) = marks (near.take b) (turn.take s) := by
  unfold marks
  rw [List.length_take, List.length_take, Nat.min_eq_left hb, Nat.min_eq_left hs]
  congr 1
  apply List.map_congr_left
  intro i _
  exact (ix_take (Nat.mod_lt _ h0)).symm
section
variable {c : Cw} {kn : Hp} {n : Nat} {σ : L2.St} {Q : V → Hp → Nat → Prop} {K : PySem.W.Frag}
/-- tuple([n for n in range(b) if t[n]]) -/
theorem w_tupIx {i j : Nat} {q : Addr} {b : Nat} {t : List Bool} (hi : σ[i]? = some (some (.int b))) (hj : ∀ v : V, ((wipe σ [9]).set 9 (some v))[j]? = some (some (.ref q))) (h9 : ∀ v : V, ((wipe σ [9]).set 9 (some v))[9]? = some (some v)) (hw : ∀ v : V, wipe ((wipe σ [9]).set 9 (some v)) [9] = wipe σ [9])
    (ht : kn q = some (.lst (blV t))) (hb : b ≤ t.length) (hs : b ≤ 1000) (hq : ∀ l k', Ext kn k' → kn l = none → k' l = some (.tup (natV (idx (t.take b)))) → Q (.ref l) k' n) :
    W c (tCB (rTupQ K) (tCons (tLc (iRng1 (tCons (tVar i) tNil)) (gName 9) (tB (tOp (rIxL K) (tVar j) (tVar 9))) (tVar 9) [9]) tNil) σ) kn n Q := by
  refine w_cb (w_cons (w_lcP (i_rng1 (w_cons (w_var hi (w_nil ⟨b, rfl, by omega, by omega, ?_⟩))))))
  rw [Int.toNat_natCast]
  refine ⟨_, (fun _ => True), (fun v => v), pIx t, gives_rng, by rw [List.length_map, List.length_range]; omega, fun _ _ => trivial, fun x hx k ek => ?_, fun D hD => ?_⟩
  · obtain ⟨m, hm, rfl⟩ := List.mem_map.1 hx
    have hm := List.mem_range.1 hm
    rw [Int.zero_add]
    refine g_name ⟨rfl, rfl, hw _, ?_⟩
    refine w_B (w_op (w_var (hj _) (w_var (h9 _) (r_ixL (ek _ _ ht) (at_bl (by omega)) ⟨_, rfl, rfl, rfl, rfl, fun _ => w_var (h9 _) ⟨rfl, rfl, rfl⟩⟩))))
  · rw [rng_filter (P := ix t) (fun i hi => by rw [Int.zero_add]; rfl), List.map_id', idx_take hb]
    refine w_nil (r_tupL upd_same fun l hl => ?_)
    exact hq l _ (ext_tr (ext_new hD) (ext_new hl)) (free_ext (ext_new hD) hl) upd_same
end
section
variable {P : Program} {w : World} {K : PySem.W.Frag} {mg : Str → Option Value} {base : Heap}
theorem ok_Lengths___init__ (T : Tx K mg) : FnOk P w K mg base (L2N.CX P w) 5 T.f_Lengths___init__ T.d_Lengths___init__ ["self", "start", "low", "period", "rests"] (liftX (bInit K T.c_Lengths T.c_BadLengths T.c_TooMany)) := by
  refine FunD.ok (CX := L2N.CX P w) T.F_Lengths___init__ sc_Lengths___init__ (fun vs H Q E h => ?_) (fun cdv A outer s H vs Q E hr h => ?_)
  · obtain ⟨kn, _, _, a, dx, v, lo, u, re, ol, orr, rfl, _⟩ := h
    rfl
  · obtain ⟨kn, ex, nt, a, dx, v, lo, u, re, ol, orr, rfl, ha, av, rl, au, rr, h, hm, g⟩ := h
    refine ⟨_, (pss_cons (ps_expr (pe_call (ok_check_parts T) (hr.mono (by decide)) (by rfl) T.g_check_parts T.F_check_parts.kp T.bd_check_parts .nil (L2N.passes_call (L2N.takes_of rfl rfl rfl rfl) (fun _ _ _ _ h => h)) (pa_cons (pv 1) (pa_cons (pv 2) (pa_cons (pv 3) (pa_cons (pv 4) pa_nil))))))
       (pss_cons (ps_set (i := 5) sc_Lengths___init__.nd rfl (by first | exact Or.inl rfl | exact Or.inr rfl) (pe_call (ok_marked T) (hr.mono (by decide)) (by rfl) T.g_marked T.F_marked.kp T.bd_marked .nil pass0 (pa_cons (pv 1) (pa_cons (pv 2) pa_nil))))
       (pss_cons (ps_set (i := 6) sc_Lengths___init__.nd rfl (by first | exact Or.inl rfl | exact Or.inr rfl) (pe_call (ok_marked T) (hr.mono (by decide)) (by rfl) T.g_marked T.F_marked.kp T.bd_marked .nil pass0 (pa_cons (pv 3) (pa_cons (pv 4) pa_nil))))
       (pss_cons (ps_set (i := 7) sc_Lengths___init__.nd rfl (by first | exact Or.inl rfl | exact Or.inr rfl) (pe_call (ok_least_period T) (hr.mono (by decide)) (by rfl) T.g_least_period T.F_least_period.kp T.bd_least_period .nil pass0 (pa_cons (pv 6) pa_nil)))
       (pss_cons (ps_setLc (i := 8) (own := [("n", 9)]) (g := gName 9) (by rfl) sc_Lengths___init__.nd rfl rfl (sw_true rfl rfl rfl (by decide +kernel)) (pi_range1 (by rfl) T.b_range (pa_cons (pv 1) pa_nil)) (blkOk_by (own := [("n", 9)]) (N := ["self", "start", "low", "period", "rests", "near", "turn", "step", "astray", "n", "begin"]) (sc := defScope s_Lengths___init__) (by decide +kernel)) (fun _ _ _ _ _ => pg_name (i := 9) sc_Lengths___init__.nd rfl (Or.inl rfl)) (fun _ _ _ _ _ => (pts_one (pt_cmpR op_ne (pe_ix (show IxR _ (rIxL K) from ix_list) (pv 5) (pv 9) (fun _ _ => rfl)) (pe_ix (show IxR _ (rIxL K) from ix_list) (pv 6) (pe_op op_mod (pv 9) (pv 7)) (fun _ _ => rfl)) (nomark _)))) (fun _ _ _ _ _ => (pv 9)))
       (pss_cons (ps_set (i := 10) sc_Lengths___init__.nd rfl (by first | exact Or.inl rfl | exact Or.inr rfl) (pe_ifExp (pt_truthQ (pv 8) (by intro _; rfl)) (pe_op op_add (pe_ix (show IxR _ (rIxL K) from ix_list) (pv 8) (pe_un un_neg pe_int) (fun _ _ => rfl)) pe_int) pe_int))
       (pss_cons (ps_expr (pe_call (ok_check_size T) (hr.mono (by decide)) (by rfl) T.g_check_size T.F_check_size.kp T.bd_check_size .nil (L2N.passes_call (L2N.takes_of rfl rfl rfl rfl) (fun _ _ _ _ h => h)) (pa_cons (pv 10) (pa_cons (pv 7) pa_nil))))
       (pss_cons (ps_fld (pv 0) (pv 10) rfl)
       (pss_cons (ps_fld (pv 0) (pv 7) rfl)
       (pss_cons (ps_fld (pv 0) (pe_callTy c_tupQ (by rfl) T.b_tuple (by decide +kernel) (pa_cons (pe_lc (own := [("n", 9)]) (g := gName 9) (by rfl) sc_Lengths___init__.nd (pi_range1 (by rfl) T.b_range (pa_cons (pv 10) pa_nil)) (blkOk_by (own := [("n", 9)]) (N := ["self", "start", "low", "period", "rests", "near", "turn", "step", "astray", "n", "begin"]) (sc := defScope s_Lengths___init__) (by decide +kernel)) (fun _ _ _ _ _ => pg_name (i := 9) sc_Lengths___init__.nd rfl (Or.inl rfl)) (fun _ _ _ _ _ => (pts_one (pt_val (pe_ix (show IxR _ (rIxL K) from ix_list) (pv 5) (pv 9) (fun _ _ => rfl))))) (fun _ _ _ _ _ => (pv 9))) pa_nil)) rfl)
       (pss_cons (ps_fld (pv 0) (pe_callTy c_tupQ (by rfl) T.b_tuple (by decide +kernel) (pa_cons (pe_lc (own := [("n", 9)]) (g := gName 9) (by rfl) sc_Lengths___init__.nd (pi_range1 (by rfl) T.b_range (pa_cons (pv 7) pa_nil)) (blkOk_by (own := [("n", 9)]) (N := ["self", "start", "low", "period", "rests", "near", "turn", "step", "astray", "n", "begin"]) (sc := defScope s_Lengths___init__) (by decide +kernel)) (fun _ _ _ _ _ => pg_name (i := 9) sc_Lengths___init__.nd rfl (Or.inl rfl)) (fun _ _ _ _ _ => (pts_one (pt_val (pe_ix (show IxR _ (rIxL K) from ix_list) (pv 6) (pv 9) (fun _ _ => rfl))))) (fun _ _ _ _ _ => (pv 9))) pa_nil)) rfl)
       (pss_one (ps_fld (pv 0) (pe_callTy c_tupQ (by rfl) T.b_tuple (by decide +kernel) (pa_cons (pe_op op_cat (pe_slice (show SlR _ (rSlL K) from sl_list) (pv 5) po_none (po_some (pv 10))) (pe_lc (own := [("n", 9)]) (g := gName 9) (by rfl) sc_Lengths___init__.nd (pi_range2 (by rfl) T.b_range (pa_cons (pv 10) (pa_cons (pe_op op_add (pv 10) (pv 7)) pa_nil))) (blkOk_by (own := [("n", 9)]) (N := ["self", "start", "low", "period", "rests", "near", "turn", "step", "astray", "n", "begin"]) (sc := defScope s_Lengths___init__) (by decide +kernel)) (fun _ _ _ _ _ => pg_name (i := 9) sc_Lengths___init__.nd rfl (Or.inl rfl)) (fun _ _ _ _ _ => pts_nil) (fun _ _ _ _ _ => (pe_ix (show IxR _ (rIxL K) from ix_list) (pv 6) (pe_op op_mod (pv 9) (pv 7)) (fun _ _ => rfl))))) pa_nil)) rfl))))))))))))), ?_⟩
    refine body_of (pure_start ex nt) ?_
    have cL := T.cl_Lengths
    walk_at "wi"
    refine w_call mo_parts err_body ?_
    walk_at "w"
    refine ⟨v, lo, u, re, ol, orr, rfl, av, rl, au, rr, fun st p xs ys gd k1 e1 => ?_, fun part nb d k e n hd => g part nb d k e n hd 0⟩
    have ar := args_of rl rr gd
    have h' := h st p xs ys gd
    have hm' := hm st p xs ys gd
    clear h hm g
    obtain ⟨⟨rfl, _⟩, ⟨rfl, _⟩, ⟨rfl, _, _⟩, rfl, _⟩ := gd
    have h := h'
    have hm := hm'
    clear h' hm'
    obtain ⟨a1, ea1, _⟩ := id ar.vx
    obtain ⟨a2, ea2, _⟩ := id ar.vy
    subst ea1 ea2
    have hturn : (maskOf p ys).length = p := mask_len _ _
    have hnear : (maskOf st xs).length = st := mask_len _ _
    have hpos := leastP_pos (t := maskOf p ys) (by rw [hturn]; exact ar.p1)
    have hle := leastP_le (maskOf p ys)
    have hb1 := (begin_spec (maskOf st xs) (maskOf p ys) (leastP (maskOf p ys))).1
    walk_at "wi"
    refine w_call mo_marked err_no ?_
    walk_at "w"
    refine ⟨st, _, xs, rfl, SeqV.ext e1 ar.vx, ar.lx, (by have := ar.s1; omega), ar.mx, fun qn k2 e2 f2 hn2 => ?_⟩
    walk_at "wi"
    refine w_call mo_marked err_no ?_
    walk_at "w"
    refine ⟨p, _, ys, rfl, SeqV.ext e2 (SeqV.ext e1 ar.vy), ar.ly, (by have := ar.p2; omega), ar.my, fun qt k3 e3 f3 hn3 => ?_⟩
    walk_at "wi"
    refine w_call mo_least err_no ?_
    walk_at "w"
    refine ⟨qt, _, rfl, hn3, (by rw [hturn]; exact ar.p1), (by rw [hturn]; have := ar.p2; omega), fun k4 e4 => ?_⟩
    have fr4 : ∀ {b : Addr}, k4 b = none → kn b = none := fun {b} hb => free_ext e1 (free_ext e2 (free_ext e3 (free_ext e4 hb)))
    have ex4 := ext_tr e1 (ext_tr e2 (ext_tr e3 e4))
    have hne : qn ≠ a := fun z => by have := e1 _ _ ha; rw [← z, f2] at this; cases this
    have hte : qt ≠ a := fun z => by have := e2 _ _ (e1 _ _ ha); rw [← z, f3] at this; cases this
    have K4 : KE a kn k4 := KE.rf.ext (ext_tr e1 (ext_tr e2 (ext_tr e3 e4)))
    have A4 := e4 _ _ (e3 _ _ (e2 _ _ (e1 _ _ ha)))
    have N4 := e4 _ _ (e3 _ _ hn2)
    have T4 := e4 _ _ hn3
    clear e1 e2 e3 e4 f2 f3 hn2 hn3
    obtain ⟨sP, hsP⟩ : ∃ sP, sP = leastP (maskOf p ys) := ⟨_, rfl⟩
    obtain ⟨near, hN⟩ : ∃ near, near = maskOf st xs := ⟨_, rfl⟩
    obtain ⟨turn, hT⟩ : ∃ turn, turn = maskOf p ys := ⟨_, rfl⟩
    unfold formN formT at h
    unfold Small at h hm
    rw [← hT] at hturn hpos hle hb1 h hm hsP T4 ⊢
    rw [← hN] at hnear hb1 h hm N4
    rw [← hsP] at hpos hle hb1 h hm ⊢
    have s1 := ar.s1
    have p2 := ar.p2
    clear hsP hN hT ar
    walk_at "wi"
    refine w_lcP (i_rng1 ?_)
    walk_at "w"
    refine ⟨by omega, by omega, ?_⟩
    rw [Int.toNat_natCast]
    refine ⟨_, (fun _ => True), (fun v => v), pAst near turn sP, gives_rng, by rw [List.length_map, List.length_range]; omega, fun _ _ => trivial, fun x hx k ek => ?_, fun D hD => ?_⟩
    · obtain ⟨i, hi, rfl⟩ := List.mem_map.1 hx
      have hi := List.mem_range.1 hi
      rw [Int.zero_add]
      walk_at "w"
      refine ⟨rfl, ?_⟩
      walk_at "w"
      refine r_ixL (ek _ _ N4) (at_bl (by omega)) ?_
      walk_at "w"
      refine r_I (by omega) ?_
      show W _ _ _ _ _
      rw [show ((i : Nat) : Int) % ((sP : Nat) : Int) = ((i % sP : Nat) : Int) from rfl]
      refine r_ixL (ek _ _ T4) (at_bl (by have := Nat.mod_lt i hpos; omega)) ?_
      walk_at "w"
      · exact bl_ne
      · refine ⟨rfl, fun _ => ?_⟩
        walk_at "w"
        all_goals first | exact ⟨rfl, rfl, rfl⟩ | exact ⟨rfl, rfl⟩ | rfl
    · rw [rng_filter (P := fun i => ix near i != ix turn (i % sP)) (fun i hi => by rw [Int.zero_add]; rfl), List.map_id']
      have hA : List.filter (fun i => ix near i != ix turn (i % sP)) (List.range st) = astray near turn sP := by unfold astray; rw [hnear]
      rw [hA]
      have ext5 : Ext k4 (upd k4 D (.lst (natV (astray near turn sP)))) := ext_new hD
      have K5 := K4.ext (ext_new (o := .lst (natV (astray near turn sP))) hD)
      have A5 := know (o := .lst (natV (astray near turn sP))) hD A4
      have N5 := know (o := .lst (natV (astray near turn sP))) hD N4
      have T5 := know (o := .lst (natV (astray near turn sP))) hD T4
      have D5 : (upd k4 D (.lst (natV (astray near turn sP)))) D = some (.lst (natV (astray near turn sP))) := upd_same
      generalize upd k4 D (.lst (natV (astray near turn sP))) = k5 at ext5 K5 A5 N5 T5 D5 ⊢
      clear hD K4 A4 N4 T4
      obtain ⟨bg, hbg⟩ : ∃ bg, bg = beginOf near turn sP := ⟨_, rfl⟩
      refine s_seq ?_
      refine s_join (fun σ' k' n' => k' = k5 ∧ n' = 0 ∧ σ' = [some (.ref a), some (.int st), some (.ref a1), some (.int p), some (.ref a2), some (.ref qn), some (.ref qt), some (.int sP), some (.ref D), none, some (.int bg)]) ?_ ?_
      · walk_at "wi"
        refine w_tru ?_
        walk_at "w"
        refine ⟨D, _, rfl, .inl D5, ?_⟩
        rcases begin_last (near := near) (turn := turn) (s := sP) with ⟨h0, h1⟩ | ⟨zs, m, h0, h1⟩
        · rw [h0, hbg, h1]
          refine ⟨fun z => absurd z (by decide), fun _ => ?_⟩
          walk_at "wi"
          all_goals first | exact ⟨rfl, rfl, rfl⟩ | exact ⟨rfl, rfl⟩ | rfl
        · rw [h0] at D5
          rw [h0, hbg, h1]
          refine ⟨fun _ => ?_, fun z => ?_⟩
          · walk_at "wi"
            refine r_ixL D5 at_last ?_
            walk_at "wi"
            all_goals first | exact ⟨rfl, rfl, rfl⟩ | exact ⟨rfl, rfl⟩ | rfl
          · simp [natV] at z
      · rintro σ' k' n' ⟨hk', rfl, rfl⟩
        obtain rfl : k5 = k' := hk'.symm
        clear hk'
        rw [← hbg] at hb1 h hm
        clear D5 hbg
        walk_at "wi"
        refine w_call mo_size err_body ?_
        walk_at "w"
        refine ⟨_, _, rfl, fun hs => ?_, fun hs d k6 e6 n6 h6 => hm (by omega) d k6 (ext_tr (ext_tr ex4 ext5) e6) (fr4 (free_ext ext5 n6)) h6 0⟩
        have h := h (by omega)
        clear hm
        walk_at "wi"
        refine ⟨_, _, _, _, rfl, A5, cL, T.na_Lengths__start, by decide, ?_⟩
        have A6 : (upd k5 a (.ins T.c_Lengths dx (putF "_start" (.int bg) []))) a = some (.ins T.c_Lengths dx [("_start", .int bg)]) := upd_same
        have K6 := K5.put (o := .ins T.c_Lengths dx (putF "_start" (.int bg) []))
        have N6 : (upd k5 a (.ins T.c_Lengths dx (putF "_start" (.int bg) []))) qn = _ := (upd_ne hne).trans N5
        have T6 : (upd k5 a (.ins T.c_Lengths dx (putF "_start" (.int bg) []))) qt = _ := (upd_ne hte).trans T5
        generalize upd k5 a (.ins T.c_Lengths dx (putF "_start" (.int bg) [])) = k6 at A6 K6 N6 T6 ⊢
        clear A5 K5 N5 T5
        walk_at "wi"
        refine ⟨_, _, _, _, rfl, A6, cL, T.na_Lengths__period, (show 1 < 1000 by decide), ?_⟩
        have A7 : (upd k6 a (.ins T.c_Lengths dx (putF "_period" (.int sP) [("_start", .int bg)]))) a = some (.ins T.c_Lengths dx [("_start", .int bg), ("_period", .int sP)]) := upd_same
        have K7 := K6.put (o := .ins T.c_Lengths dx (putF "_period" (.int sP) [("_start", .int bg)]))
        have N7 : (upd k6 a (.ins T.c_Lengths dx (putF "_period" (.int sP) [("_start", .int bg)]))) qn = _ := (upd_ne hne).trans N6
        have T7 : (upd k6 a (.ins T.c_Lengths dx (putF "_period" (.int sP) [("_start", .int bg)]))) qt = _ := (upd_ne hte).trans T6
        generalize upd k6 a (.ins T.c_Lengths dx (putF "_period" (.int sP) [("_start", .int bg)])) = k7 at A7 K7 N7 T7 ⊢
        clear A6 K6 N6 T6
        refine s_seq (s_fld ?_)
        refine w_tupIx (q := qn) (t := near) rfl (fun _ => rfl) (fun _ => rfl) (fun _ => rfl) N7 (by omega) (by omega) fun l1 k8 e8 f8 h8 => ?_
        walk_at "wi"
        have A8 := e8 _ _ A7
        have d1 : l1 ≠ a := fun z => by rw [z, A7] at f8; cases f8
        refine ⟨_, _, _, _, rfl, A8, cL, T.na_Lengths__low, (show 2 < 1000 by decide), ?_⟩
        have A9 : (upd k8 a (.ins T.c_Lengths dx (putF "_low" (.ref l1) [("_start", .int bg), ("_period", .int sP)]))) a = some (.ins T.c_Lengths dx [("_start", .int bg), ("_period", .int sP), ("_low", .ref l1)]) := upd_same
        have K9 := (K7.ext e8).put (o := .ins T.c_Lengths dx (putF "_low" (.ref l1) [("_start", .int bg), ("_period", .int sP)]))
        have N9 : (upd k8 a (.ins T.c_Lengths dx (putF "_low" (.ref l1) [("_start", .int bg), ("_period", .int sP)]))) qn = _ := (upd_ne hne).trans (e8 _ _ N7)
        have T9 : (upd k8 a (.ins T.c_Lengths dx (putF "_low" (.ref l1) [("_start", .int bg), ("_period", .int sP)]))) qt = _ := (upd_ne hte).trans (e8 _ _ T7)
        have L9 : (upd k8 a (.ins T.c_Lengths dx (putF "_low" (.ref l1) [("_start", .int bg), ("_period", .int sP)]))) l1 = _ := (upd_ne d1).trans h8
        generalize upd k8 a (.ins T.c_Lengths dx (putF "_low" (.ref l1) [("_start", .int bg), ("_period", .int sP)])) = k9 at A9 K9 N9 T9 L9 ⊢
        clear A7 K7 N7 T7 A8 e8 f8 h8
        refine s_seq (s_fld ?_)
        refine w_tupIx (q := qt) (t := turn) rfl (fun _ => rfl) (fun _ => rfl) (fun _ => rfl) T9 (by omega) (by omega) fun l2 k10 e10 f10 h10 => ?_
        walk_at "wi"
        have A10 := e10 _ _ A9
        have d2 : l2 ≠ a := fun z => by rw [z, A9] at f10; cases f10
        refine ⟨_, _, _, _, rfl, A10, cL, T.na_Lengths__rests, (show 3 < 1000 by decide), ?_⟩
        have A11 : (upd k10 a (.ins T.c_Lengths dx (putF "_rests" (.ref l2) [("_start", .int bg), ("_period", .int sP), ("_low", .ref l1)]))) a = some (.ins T.c_Lengths dx [("_start", .int bg), ("_period", .int sP), ("_low", .ref l1), ("_rests", .ref l2)]) := upd_same
        have K11 := (K9.ext e10).put (o := .ins T.c_Lengths dx (putF "_rests" (.ref l2) [("_start", .int bg), ("_period", .int sP), ("_low", .ref l1)]))
        have N11 : (upd k10 a (.ins T.c_Lengths dx (putF "_rests" (.ref l2) [("_start", .int bg), ("_period", .int sP), ("_low", .ref l1)]))) qn = _ := (upd_ne hne).trans (e10 _ _ N9)
        have T11 : (upd k10 a (.ins T.c_Lengths dx (putF "_rests" (.ref l2) [("_start", .int bg), ("_period", .int sP), ("_low", .ref l1)]))) qt = _ := (upd_ne hte).trans (e10 _ _ T9)
        have L11 : (upd k10 a (.ins T.c_Lengths dx (putF "_rests" (.ref l2) [("_start", .int bg), ("_period", .int sP), ("_low", .ref l1)]))) l1 = _ := (upd_ne d1).trans (e10 _ _ L9)
        have M11 : (upd k10 a (.ins T.c_Lengths dx (putF "_rests" (.ref l2) [("_start", .int bg), ("_period", .int sP), ("_low", .ref l1)]))) l2 = _ := (upd_ne d2).trans h10
        generalize upd k10 a (.ins T.c_Lengths dx (putF "_rests" (.ref l2) [("_start", .int bg), ("_period", .int sP), ("_low", .ref l1)])) = k11 at A11 K11 N11 T11 L11 M11 ⊢
        clear A9 K9 N9 T9 L9 A10 e10 f10 h10
        refine s_fld ?_
        walk_at "wi"
        refine r_slL N11 fun b1 hb1 => ?_
        rw [cut_hi, ← List.map_take]
        have S12 : (upd k11 b1 (.lst (blV (near.take bg)))) b1 = some (.lst (blV (near.take bg))) := upd_same
        have e12 : Ext k11 (upd k11 b1 (.lst (blV (near.take bg)))) := ext_new hb1
        generalize upd k11 b1 (.lst (blV (near.take bg))) = k12 at S12 e12 ⊢
        walk_at "wi"
        refine w_lcP (i_rng2 ?_)
        walk_at "w"
        refine ⟨_, _, rfl, ⟨by omega, by omega, by omega, by omega⟩, ?_⟩
        rw [show ((bg : Int) + (sP : Int) - (bg : Int)).toNat = sP by omega]
        refine ⟨_, (fun _ => True), fIx turn sP, (fun _ => true), gives_rng, by rw [List.length_map, List.length_range]; omega, fun _ _ => trivial, fun x hx k ek => ?_, fun D2 hD2 => ?_⟩
        · obtain ⟨i, hi, rfl⟩ := List.mem_map.1 hx
          rw [show (bg : Int) + ((i : Nat) : Int) = ((bg + i : Nat) : Int) by omega]
          walk_at "w"
          refine ⟨rfl, w_yesT ?_⟩
          refine ⟨rfl, rfl, rfl, fun _ => ?_⟩
          walk_at "w"
          refine r_I (by omega) ?_
          rw [show ((bg + i : Nat) : Int) % ((sP : Nat) : Int) = (((bg + i) % sP : Nat) : Int) from rfl]
          refine r_ixL (ek _ _ (e12 _ _ T11)) (at_bl (by have := Nat.mod_lt (bg + i) hpos; omega)) ?_
          exact ⟨rfl, rfl, rfl⟩
        · rw [show List.map (fIx turn sP) (List.filter (fun _ => true) ((List.range sP).map fun (i : Nat) => V.int ((bg : Int) + (i : Int)))) = blV ((List.range sP).map fun i => ix turn ((bg + i) % sP)) by
            rw [List.filter_eq_self.2 (fun _ _ => rfl), List.map_map]
            unfold blV
            rw [List.map_map]
            apply List.map_congr_left
            intro i _
            show fIx turn sP (.int ((bg : Int) + (i : Int))) = _
            rw [show (bg : Int) + ((i : Nat) : Int) = ((bg + i : Nat) : Int) by omega]
            rfl]
          have S13 := know (o := .lst (blV ((List.range sP).map fun i => ix turn ((bg + i) % sP)))) hD2 S12
          have e13 := ext_tr e12 (ext_new (o := .lst (blV ((List.range sP).map fun i => ix turn ((bg + i) % sP)))) hD2)
          have U13 : (upd k12 D2 (.lst (blV ((List.range sP).map fun i => ix turn ((bg + i) % sP))))) D2 = some (.lst (blV ((List.range sP).map fun i => ix turn ((bg + i) % sP)))) := upd_same
          generalize upd k12 D2 (.lst (blV ((List.range sP).map fun i => ix turn ((bg + i) % sP)))) = k13 at S13 e13 U13 ⊢
          walk_at "w"
          refine r_cat S13 U13 (by rw [List.length_map, List.length_map, List.length_map, List.length_range, List.length_take]; omega) fun b3 hb3 => ?_
          rw [← List.map_append, marks_take (by omega) hle hpos]
          walk_at "w"
          refine r_tupL upd_same fun b4 hb4 => ?_
          walk_at "w"
          have e15 := ext_tr e13 (ext_tr (ext_new (o := .lst (blV (marks (near.take bg) (turn.take sP)))) hb3) (ext_new (o := .tup (blV (marks (near.take bg) (turn.take sP)))) hb4))
          have d4 : b4 ≠ a := fun z => by
            have := (ext_tr e13 (ext_new (o := .lst (blV (marks (near.take bg) (turn.take sP)))) hb3)) _ _ A11
            rw [z, this] at hb4
            cases hb4
          have V15 : (upd (upd k13 b3 (.lst (blV (marks (near.take bg) (turn.take sP))))) b4 (.tup (blV (marks (near.take bg) (turn.take sP))))) b4 = some (.tup (blV (marks (near.take bg) (turn.take sP)))) := upd_same
          generalize upd (upd k13 b3 (.lst (blV (marks (near.take bg) (turn.take sP))))) b4 (.tup (blV (marks (near.take bg) (turn.take sP)))) = k15 at e15 V15 ⊢
          refine ⟨_, _, _, _, rfl, e15 _ _ A11, cL, T.na_Lengths__marks, (show 4 < 1000 by decide), ?_⟩
          walk_at "wi"
          refine fun H' g' => h _ ((K11.ext e15).put) ⟨l1, l2, b4, ?_, (upd_ne d1).trans (e15 _ _ L11), (upd_ne d2).trans (e15 _ _ M11), (upd_ne d4).trans V15⟩ 0 H' g'
          rw [upd_same, List.length_take, List.length_take, Nat.min_eq_left (by omega), Nat.min_eq_left hle]
          rfl
end

end NN

namespace NN
open PySem PySem.Spec PyProof.Rows L2 LamX AW ClX
open Tx1 Ln
/-! ### made, compared, written -/
theorem form_args {st p : Nat} {xs ys : List Nat} (h : 1 ≤ p) (sm : Small st p xs ys) : Form (formN st p xs ys) (formT p ys) := form_of (by rw [mask_len]; exact h) sm
theorem form_small {K : PySem.W.Frag} {kn : Hp} {lo re : V} {st p : Nat} {xs ys : List Nat} (ar : Args4 K kn lo re st p xs ys) (h : Small st p xs ys) : Form (formN st p xs ys) (formT p ys) := form_args ar.p1 h
theorem GoodA.uniq {v u : V} {ol orr : Option (List V)} {st p st' p' : Nat} {xs ys xs' ys' : List Nat} (g : GoodA v u ol orr st p xs ys) (g' : GoodA v u ol orr st' p' xs' ys') : st = st' ∧ p = p' ∧ xs = xs' ∧ ys = ys' :=
  ⟨g.1.uniq g'.1, g.2.2.1.uniq g'.2.2.1, g.2.1.uniq g'.2.1, g.2.2.2.uniq g'.2.2.2⟩
theorem good_bad {v u : V} {ol orr : Option (List V)} {st p : Nat} {xs ys : List Nat} {part : Str} (g : GoodA v u ol orr st p xs ys) (b : BadA v u ol orr part) : False := by
  rcases b with ⟨_, no⟩ | ⟨_, s, hs, no⟩ | ⟨_, _, no⟩ | ⟨_, _, q, hq, no⟩
  · exact no ⟨st, g.1⟩
  · obtain rfl := g.1.uniq hs
    exact no ⟨xs, g.2.1⟩
  · exact no ⟨p, g.2.2.1⟩
  · obtain rfl := g.2.2.1.uniq hq
    exact no ⟨ys, g.2.2.2⟩
theorem bad_uniq {v u : V} {ol orr : Option (List V)} {part part' : Str} (b : BadA v u ol orr part) (b' : BadA v u ol orr part') : part' = part := by
  rcases b with ⟨rfl, no⟩ | ⟨rfl, s, hs, no⟩ | ⟨rfl, ⟨s, xs, hs, hx⟩, no⟩ | ⟨rfl, ⟨s, xs, hs, hx⟩, q, hq, no⟩
  · rcases b' with ⟨rfl, _⟩ | ⟨rfl, s', hs', _⟩ | ⟨rfl, ⟨s', xs', hs', hx'⟩, _⟩ | ⟨rfl, ⟨s', xs', hs', hx'⟩, _⟩
    · rfl
    all_goals exact absurd ⟨s', hs'⟩ no
  · rcases b' with ⟨rfl, no'⟩ | ⟨rfl, s', hs', _⟩ | ⟨rfl, ⟨s', xs', hs', hx'⟩, _⟩ | ⟨rfl, ⟨s', xs', hs', hx'⟩, _⟩
    · exact absurd ⟨s, hs⟩ no'
    · rfl
    all_goals (obtain rfl := hs.uniq hs'; exact absurd ⟨xs', hx'⟩ no)
  · rcases b' with ⟨rfl, no'⟩ | ⟨rfl, s', hs', no'⟩ | ⟨rfl, _, _⟩ | ⟨rfl, _, q', hq', _⟩
    · exact absurd ⟨s, hs⟩ no'
    · obtain rfl := hs.uniq hs'
      exact absurd ⟨xs, hx⟩ no'
    · rfl
    · exact absurd ⟨q', hq'⟩ no
  · rcases b' with ⟨rfl, no'⟩ | ⟨rfl, s', hs', no'⟩ | ⟨rfl, _, no'⟩ | ⟨rfl, _, _⟩
    · exact absurd ⟨s, hs⟩ no'
    · obtain rfl := hs.uniq hs'
      exact absurd ⟨xs, hx⟩ no'
    · exact absurd ⟨q, hq⟩ no'
    · rfl
/-- Lengths(..): what it makes, what it refuses -/
def MakeL (K : PySem.W.Frag) (C B BT : Addr) (v lo u re : V) (kn1 : Hp) (Q : AK) (E : AXK) : Prop := ∃ ol orr, AnyN K kn1 v ∧ RestsV K kn1 lo ol ∧ AnyN K kn1 u ∧ RestsV K kn1 re orr ∧
  (∀ st p xs ys, GoodA v u ol orr st p xs ys → Small st p xs ys → NewL C kn1 (formN st p xs ys) (formT p ys) Q) ∧ (∀ st p xs ys, GoodA v u ol orr st p xs ys → ¬ Small st p xs ys → BadTM BT kn1 E) ∧ (∀ part, BadA v u ol orr part → BadE B kn1 "part" (.str part) E)
theorem make_init {K : PySem.W.Frag} {C B BT : Addr} {v lo u re : V} {kn1 : Hp} {Q : AK} {E : AXK} (hv : MakeL K C B BT v lo u re kn1 Q E) {x dx : Addr} (hx : kn1 x = none) (hdx : kn1 dx = none) (hne : dx ≠ x) :
    bInit K C B BT [.ref x, v, lo, u, re] (upd (upd kn1 dx (.own x)) x (.ins C dx [])) (fun v k => v = .non ∧ Q (.ref x) k) E := by
  obtain ⟨ol, orr, av, rl, au, rr, h1, h2, h3⟩ := hv
  have hx2 : upd kn1 dx (.own x) x = none := by rw [upd_ne (Ne.symm hne)]; exact hx
  have ex : Ext kn1 (upd (upd kn1 dx (.own x)) x (.ins C dx [])) := ext_tr (ext_new hdx) (ext_new hx2)
  have keep : ∀ k', KE x (upd (upd kn1 dx (.own x)) x (.ins C dx [])) k' → Ext kn1 k' := fun k' ke y o hy => ke y o (fun z => by rw [z, hx] at hy; cases hy) (ex y o hy)
  refine ⟨x, dx, v, lo, u, re, ol, orr, rfl, upd_same, any_ext ex av, rests_ext ex rl, any_ext ex au, rests_ext ex rr, fun st p xs ys gd sm k' ke hk => ⟨rfl, h1 st p xs ys gd sm x k' (keep k' ke) hx ?_⟩, fun st p xs ys gd sm => (h2 st p xs ys gd sm).ext ex, fun part nb => (h3 part nb).ext ex⟩
  obtain ⟨q1, q2, q3, z1, z2, z3, z4⟩ := hk
  exact ⟨⟨dx, q1, q2, q3, z1, z2, z3, z4⟩, form_args gd.2.2.1.2.1 sm⟩
theorem make_good {K : PySem.W.Frag} {C B BT : Addr} {lo re : V} {kn1 : Hp} {Q : AK} {E : AXK} {st p : Nat} {xs ys : List Nat} (ar : Args4 K kn1 lo re st p xs ys) (sm : Small st p xs ys) (h : NewL C kn1 (formN st p xs ys) (formT p ys) Q) : MakeL K C B BT (.int st) lo (.int p) re kn1 Q E := by
  have gd : GoodA (.int st) (.int p) (some (natV xs)) (some (natV ys)) st p xs ys := ⟨⟨rfl, ar.s1⟩, ⟨rfl, ar.mx⟩, ⟨rfl, ar.p1, ar.p2⟩, rfl, ar.my⟩
  have na : ∀ {zs : List Nat}, ∀ x ∈ natV zs, AnyN K kn1 x := fun {zs} x hx => by
    obtain ⟨m, _, rfl⟩ := List.mem_map.1 hx
    exact .inl ⟨_, rfl⟩
  refine ⟨some (natV xs), some (natV ys), .inl ⟨_, rfl⟩, ⟨ar.vx, by rw [List.length_map]; exact ar.lx, na⟩, .inl ⟨_, rfl⟩, ⟨ar.vy, by rw [List.length_map]; exact ar.ly, na⟩, fun st' p' xs' ys' gd' sm' => ?_, fun st' p' xs' ys' gd' ns => ?_, fun part nb => (good_bad gd nb).elim⟩
  · obtain ⟨rfl, rfl, rfl, rfl⟩ := gd.uniq gd'
    exact h
  · obtain ⟨rfl, rfl, rfl, rfl⟩ := gd.uniq gd'
    exact absurd sm ns
theorem make_many {K : PySem.W.Frag} {C B BT : Addr} {lo re : V} {kn1 : Hp} {Q : AK} {E : AXK} {st p : Nat} {xs ys : List Nat} (ar : Args4 K kn1 lo re st p xs ys) (sm : ¬ Small st p xs ys) (h : BadTM BT kn1 E) : MakeL K C B BT (.int st) lo (.int p) re kn1 Q E := by
  have gd : GoodA (.int st) (.int p) (some (natV xs)) (some (natV ys)) st p xs ys := ⟨⟨rfl, ar.s1⟩, ⟨rfl, ar.mx⟩, ⟨rfl, ar.p1, ar.p2⟩, rfl, ar.my⟩
  have na : ∀ {zs : List Nat}, ∀ x ∈ natV zs, AnyN K kn1 x := fun {zs} x hx => by
    obtain ⟨m, _, rfl⟩ := List.mem_map.1 hx
    exact .inl ⟨_, rfl⟩
  refine ⟨some (natV xs), some (natV ys), .inl ⟨_, rfl⟩, ⟨ar.vx, by rw [List.length_map]; exact ar.lx, na⟩, .inl ⟨_, rfl⟩, ⟨ar.vy, by rw [List.length_map]; exact ar.ly, na⟩, fun st' p' xs' ys' gd' sm' => ?_, fun st' p' xs' ys' gd' ns => h, fun part nb => (good_bad gd nb).elim⟩
  obtain ⟨rfl, rfl, rfl, rfl⟩ := gd.uniq gd'
  exact absurd sm' sm
theorem make_bad {K : PySem.W.Frag} {C B BT : Addr} {v lo u re : V} {ol orr : Option (List V)} {kn1 : Hp} {Q : AK} {E : AXK} {part : Str} (av : AnyN K kn1 v) (rl : RestsV K kn1 lo ol) (au : AnyN K kn1 u) (rr : RestsV K kn1 re orr) (nb : BadA v u ol orr part) (h : BadE B kn1 "part" (.str part) E) : MakeL K C B BT v lo u re kn1 Q E :=
  ⟨ol, orr, av, rl, au, rr, fun _ _ _ _ gd _ => (good_bad gd nb).elim, fun _ _ _ _ gd _ => (good_bad gd nb).elim, fun part' nb' => by rw [bad_uniq nb nb']; exact h⟩
/-- Lengths(..), the values behind it by default -/
theorem w_lenX {K : PySem.W.Frag} {c : Cw} {kn : Hp} {n : Nat} {σ : L2.St} {Q : V → Hp → Nat → Prop} {E : XK} {EA : EAK} {C B BT : Addr} {dvs : List V} {t : TA} (hE : ErrOk c EA E)
    (h : W c (t σ) kn n fun vs kn1 n1 => ∃ v lo u re, vs ++ dvs = [v, lo, u, re] ∧ MakeL K C B BT v lo u re kn1 (fun v k => Q v k n1) (fun cls d k => EA cls d k n1)) : W c (tMake C (liftX (bInit K C B BT)) dvs E t σ) kn n Q :=
  fun H g Q' q => h H g _ fun vs kn1 n1 H1 ⟨v, lo, u, re, ev, hm⟩ g1 => fun x dx hx hdx hne => by
    have hx2 : upd H1 dx (.own x) x = none := by rw [upd_ne (Ne.symm hne)]; exact hx
    rw [ev]
    exact sp_call (EA := EA) (c := c) (n := n1) (Q := fun v kn2 n2 => v = .non ∧ Q (.ref x) kn2 n2) mo_init hE (make_init hm (g1.free hx) (g1.free hdx) hne) _ ((g1.new hdx).new hx2) (fun v H2 => v = .non ∧ Q' (.ref x) H2)
      (fun v kn2 n2 H2 hq g2 => ⟨hq.1, q _ _ _ _ hq.2 g2⟩)
theorem w_len {K : PySem.W.Frag} {c : Cw} {kn : Hp} {n : Nat} {σ : L2.St} {Q : V → Hp → Nat → Prop} {E : XK} {C B BT : Addr} {dvs : List V} {t : TA}
    (h : W c (t σ) kn n fun vs kn1 n1 => ∃ (lo re : V) (st p : Nat) (xs ys : List Nat), vs ++ dvs = [.int st, lo, .int p, re] ∧ Args4 K kn1 lo re st p xs ys ∧ Small st p xs ys ∧ NewL C kn1 (formN st p xs ys) (formT p ys) fun v k => Q v k n1) : W c (tMake C (liftX (bInit K C B BT)) dvs E t σ) kn n Q :=
  w_lenX (EA := fun _ _ _ _ => False) err_no (h.mono fun vs kn1 n1 ⟨lo, re, st, p, xs, ys, e, ar, sm, hq⟩ => ⟨_, lo, _, re, e, make_good ar sm hq⟩)
def bNew (C : Addr) (nr tn : List Bool) : List V → Hp → AK → AXK → Prop := fun vs kn Q _ => vs = [] ∧ NewL C kn nr tn Q
theorem mo_new {C : Addr} {nr tn : List Bool} : MonoX (bNew C nr tn) := by
  rintro vs kn Q R E F h1 h2 ⟨a, h⟩
  exact ⟨a, fun x k z1 z2 z3 => h1 _ _ (h x k z1 z2 z3)⟩
theorem idx_len (t : List Bool) : (idx t).length ≤ t.length := by
  unfold idx
  exact Nat.le_trans (List.length_filter_le _ _) (by rw [List.length_range]; exact Nat.le_refl _)
section
variable {P : Program} {w : World} {K : PySem.W.Frag} {mg : Str → Option Value} {base : Heap}
theorem ok_Lengths_none (T : Tx K mg) : FnOk P w K mg base CX0 7 T.f_Lengths_none T.d_Lengths_none [] (liftX (bNew T.c_Lengths [] [false])) := by
  refine T.F_Lengths_none.ok sc_Lengths_none (fun vs H Q E h => ?_) (fun cdv A outer s H vs Q E hr h => ?_)
  · obtain ⟨kn, _, _, rfl, _⟩ := h
    rfl
  · obtain ⟨kn, ex, nt, rfl, h⟩ := h
    refine ⟨_, (pss_one (ps_ret (pe_make T.mk_Lengths (ok_Lengths___init__ T) (hr.mono (by decide)) (by rfl) T.g_Lengths (Classical.choose_spec T.bd1_Lengths).2 (Classical.choose_spec T.bd1_Lengths).1 passLN (pa_cons pe_int pa_nil)))), ?_⟩
    refine body_of (pure_start ex nt) ?_
    walk_at "wi"
    refine w_len ?_
    walk_at "w"
    refine ⟨_, _, 0, 1, [], [], rfl, ⟨by decide, by decide, by decide, by decide, by decide, fun n hn => (by cases hn), fun n hn => (by cases hn), ⟨_, rfl, .inr (.inr T.kt_dl_Lengths___init__)⟩, ⟨_, rfl, .inr (.inr T.kt_dr_Lengths___init__)⟩⟩, (show _ ≤ 400 by decide), fun x k e n l => ?_⟩
    exact h x k e n l 0
theorem oR_Lengths_none (T : Tx K mg) : FnR P w K mg base CX0 7 T.f_Lengths_none (liftX (bNew T.c_Lengths [] [false])) :=
  ((ok_Lengths_none T).raw T.bd_Lengths_none .nil).imp fun vs H Q E h => by rw [List.append_nil]; exact h
end

end NN

namespace NN
open PySem PySem.Spec PyProof.Rows L2 LamX AW ClX
open Tx1 Ln
/-! ### the text -/
theorem sp_eq : (Str.ofString " ") = Tx1.spS := by decide +kernel
theorem from_eq : (Str.ofString "from") = fromS := by decide +kernel
theorem by_eq : (Str.ofString "by") = byS := by decide +kernel
theorem at_eq : (Str.ofString "at") = Tx1.atS := by decide +kernel
theorem none_eq : (Str.ofString "none") = noneS := by decide +kernel
theorem log_small {i : Int} (h1 : -(10 ^ 13) < i) (h2 : i < 10 ^ 13) : i.natAbs.log2 < 1920 := by
  by_cases z : i.natAbs = 0
  · rw [z]; decide
  · have a : i.natAbs < 2 ^ 44 := by omega
    exact Nat.lt_trans ((Nat.log2_lt z).mpr a) (by decide)
theorem len_small {i : Int} (h1 : -(10 ^ 13) < i) (h2 : i < 10 ^ 13) : (Str.ofString (toString i)).length ≤ 14 := by
  rw [PySem.ofString_length]
  exact int_text_length_le10 (k := 13) (by decide) (by omega)
theorem nS_len {n : Nat} (h : n ≤ 1000) : (nS n).length ≤ 14 := len_small (by omega) (by omega)
theorem sum_le {α : Type} {f : α → Nat} {m : Nat} : ∀ {l : List α}, (∀ x ∈ l, f x ≤ m) → (l.map f).sum ≤ m * l.length
  | [], _ => by simp
  | a :: l, h => by
    have h1 := h a List.mem_cons_self
    have h2 := sum_le (f := f) (m := m) (l := l) fun x hx => h x (List.mem_cons_of_mem _ hx)
    simp only [List.map_cons, List.sum_cons, List.length_cons]
    rw [Nat.mul_succ]
    omega
theorem words_len {nr tn : List Bool} (F : Form nr tn) : (wordsT nr tn).length ≤ 410 ∧ ∀ p ∈ wordsT nr tn, p.length ≤ 14 := by
  have h1 := idx_len nr
  have h2 := idx_len tn
  have h3 := F.le
  have hn : ∀ n ∈ idx nr, (nS n).length ≤ 14 := fun n hn => nS_len (by have := (mem_idx.1 hn).1; omega)
  have ht : ∀ n ∈ idx tn, (nS n).length ≤ 14 := fun n hn => nS_len (by have := (mem_idx.1 hn).1; omega)
  constructor
  · unfold wordsT tailW
    rw [List.length_append, List.length_map]
    split
    · simp only [List.length_nil]; omega
    · simp only [List.length_cons, List.length_map]; omega
  · intro p hp
    rcases List.mem_append.1 hp with h | h
    · obtain ⟨n, hm, rfl⟩ := List.mem_map.1 h
      exact hn n hm
    · unfold tailW at h
      split at h
      · cases h
      · simp only [List.mem_cons] at h
        rcases h with rfl | rfl | rfl | rfl | rfl | h
        · decide
        · exact nS_len (by omega)
        · decide
        · exact nS_len (by omega)
        · decide
        · obtain ⟨n, hm, rfl⟩ := List.mem_map.1 h
          exact ht n hm
def fStr : V → V
  | .int i => .str (Str.ofString (toString i))
  | v => v
abbrev strV (ws : List Str) : List V := ws.map V.str
theorem map_fStr (xs : List Nat) : ((natV xs).filter (fun _ => true)).map fStr = strV (xs.map nS) := by
  rw [List.filter_eq_self.2 (fun _ _ => rfl)]
  unfold natV strV
  rw [List.map_map, List.map_map]
  rfl
def bStr (C : Addr) : List V → Hp → AK → AXK → Prop := fun vs kn Q _ => ∃ a nr tn, vs = [.ref a] ∧ LenAt C kn a nr tn ∧ ∀ k', Ext kn k' → Q (.str (lnT nr tn)) k'
theorem mo_str {C : Addr} : MonoX (bStr C) := by
  rintro vs kn Q R E F h1 h2 ⟨a, nr, tn, x, y, h⟩
  exact ⟨a, nr, tn, x, y, fun k e => h1 _ _ (h k e)⟩
section
variable {c : Cw} {kn : Hp} {n : Nat} {σ : L2.St} {Q : V → Hp → Nat → Prop} {K : PySem.W.Frag}
/-- [str(n) for n in a tuple of numbers] -/
theorem w_strs {te : TE} {i : Nat} {xs : List Nat} {q : Addr} (hte : ∀ R : V → Hp → Nat → Prop, R (.ref q) kn n → W c (te σ) kn n R) (hq : kn q = some (.tup (natV xs))) (hl : xs.length ≤ 1000) (hx : ∀ m ∈ xs, m ≤ 1000)
    (hi : ∀ v : V, ((wipe σ [i]).set i (some v))[i]? = some (some v)) (hw : ∀ v : V, wipe ((wipe σ [i]).set i (some v)) [i] = wipe σ [i])
    (h : ∀ D, kn D = none → Q (.ref D) (upd kn D (.lst (strV (xs.map nS)))) n) : W c (tLc (iTup K te) (gName i) tYes (tCB rStrI (tCons (tVar i) tNil)) [i] σ) kn n Q := by
  refine w_lcP (i_tup (hte _ ⟨q, _, rfl, hq, ?_⟩))
  refine ⟨_, _, fStr, fun _ => true, gives_tup, by rw [List.length_map]; omega, fun k e => e _ _ hq, fun x hx2 k ek => ?_, fun D hD => ?_⟩
  · obtain ⟨m, hm, rfl⟩ := List.mem_map.1 hx2
    have := hx m hm
    refine g_name ⟨rfl, rfl, hw _, w_yesT ⟨rfl, rfl, rfl, fun _ => ?_⟩⟩
    exact w_cb (w_cons (w_var (hi _) (w_nil (r_strI (log_small (by omega) (by omega)) ⟨rfl, rfl, rfl⟩))))
  · rw [map_fStr]
    exact h D hD
end
section
variable {P : Program} {w : World} {K : PySem.W.Frag} {mg : Str → Option Value} {base : Heap}
theorem ok_Lengths___str__ (T : Tx K mg) : FnOk P w K mg base CX0 2 T.f_Lengths___str__ T.d_Lengths___str__ ["self"] (liftX (bStr T.c_Lengths)) := by
  refine T.F_Lengths___str__.ok sc_Lengths___str__ (fun vs H Q E h => ?_) (fun cdv A outer s H vs Q E hr h => ?_)
  · obtain ⟨kn, _, _, a, nr, tn, rfl, _⟩ := h
    rfl
  · obtain ⟨kn, ex, nt, a, nr, tn, rfl, ⟨⟨dx, q1, q2, q3, z1, z2, z3, z4⟩, F⟩, h⟩ := h
    refine ⟨_, (pss_cons (ps_setLc (i := 1) (own := [("n", 2)]) (g := gName 2) (by rfl) sc_Lengths___str__.nd rfl rfl (sw_true rfl rfl rfl (by decide +kernel)) (pi_tup (pe_fld (pv 0) rfl)) (blkOk_by (own := [("n", 2)]) (N := ["self", "words", "n", "rests"]) (sc := defScope s_Lengths___str__) (by decide +kernel)) (fun _ _ _ _ _ => pg_name (i := 2) sc_Lengths___str__.nd rfl (Or.inl rfl)) (fun _ _ _ _ _ => pts_nil) (fun _ _ _ _ _ => (pe_callTy c_strI (by rfl) T.b_str (by decide +kernel) (pa_cons (pv 2) pa_nil))))
       (pss_cons (ps_if (pt_truthQ (pe_fld (pv 0) rfl) (by intro _; rfl))
       (pss_cons (ps_setLc (i := 3) (own := [("n", 2)]) (g := gName 2) (by rfl) sc_Lengths___str__.nd rfl rfl (sw_true rfl rfl rfl (by decide +kernel)) (pi_tup (pe_fld (pv 0) rfl)) (blkOk_by (own := [("n", 2)]) (N := ["self", "words", "n", "rests"]) (sc := defScope s_Lengths___str__) (by decide +kernel)) (fun _ _ _ _ _ => pg_name (i := 2) sc_Lengths___str__.nd rfl (Or.inl rfl)) (fun _ _ _ _ _ => pts_nil) (fun _ _ _ _ _ => (pe_callTy c_strI (by rfl) T.b_str (by decide +kernel) (pa_cons (pv 2) pa_nil))))
       (pss_one (ps_set (i := 1) sc_Lengths___str__.nd rfl (by first | exact Or.inl rfl | exact Or.inr rfl) (pe_lst (StX.pa_star (pv 1) (pa_cons pe_str (pa_cons (pe_callTy c_strI (by rfl) T.b_str (by decide +kernel) (pa_cons (pe_fld (pv 0) rfl) pa_nil)) (pa_cons pe_str (pa_cons (pe_callTy c_strI (by rfl) T.b_str (by decide +kernel) (pa_cons (pe_fld (pv 0) rfl) pa_nil)) (pa_cons pe_str (StX.pa_star (pv 3) pa_nil)))))))))))
       pss_nil)
       (pss_cons (ps_if (pt_not (pt_truthQ (pv 1) (by intro _; rfl)))
       (pss_one (ps_ret pe_str))
       pss_nil)
       (pss_one (ps_ret (pe_joinQ pe_str (pv 1))))))), ?_⟩
    refine body_of (pure_start ex nt) ?_
    have cL := T.cl_Lengths
    have i1 := idx_len nr
    have i2 := idx_len tn
    have fl := F.le
    refine s_seq (s_set ?_)
    refine w_strs (q := q1) (fun R hR => w_fld (w_var rfl ⟨_, _, _, _, _, rfl, z1, cL, T.na_Lengths__low, rfl, hR⟩)) z2 (by omega) (fun m hm => by have := (mem_idx.1 hm).1; omega) (fun _ => rfl) (fun _ => rfl) fun D hD => ?_
    have e1 : Ext kn (upd kn D (.lst (strV ((idx nr).map nS)))) := ext_new hD
    have D1 : (upd kn D (.lst (strV ((idx nr).map nS)))) D = some (.lst (strV ((idx nr).map nS))) := upd_same
    generalize upd kn D (.lst (strV ((idx nr).map nS))) = k1 at e1 D1 ⊢
    refine s_seq ?_
    refine s_join (fun σ' k' n' => n' = 0 ∧ Ext kn k' ∧ ∃ Dw x2 x3, σ' = [some (.ref a), some (.ref Dw), x2, x3] ∧ k' Dw = some (.lst (strV (wordsT nr tn)))) ?_ ?_
    · refine s_if (w_tru (w_fld (w_var rfl ⟨_, _, _, _, _, rfl, e1 _ _ z1, cL, T.na_Lengths__rests, rfl, q2, _, rfl, .inr (e1 _ _ z3), fun hb => ?_, fun hb => ?_⟩)))
      · have hne : idx tn ≠ [] := fun z => by rw [z] at hb; cases hb
        refine s_seq (s_set ?_)
        refine w_strs (q := q2) (fun R hR => w_fld (w_var rfl ⟨_, _, _, _, _, rfl, e1 _ _ z1, cL, T.na_Lengths__rests, rfl, hR⟩)) (e1 _ _ z3) (by omega) (fun m hm => by have := (mem_idx.1 hm).1; omega) (fun _ => rfl) (fun _ => rfl) fun D2 hD2 => ?_
        have e2 := ext_tr e1 (ext_new (o := .lst (strV ((idx tn).map nS))) hD2)
        have D2' := know (o := .lst (strV ((idx tn).map nS))) hD2 D1
        have R2 : (upd k1 D2 (.lst (strV ((idx tn).map nS)))) D2 = some (.lst (strV ((idx tn).map nS))) := upd_same
        generalize upd k1 D2 (.lst (strV ((idx tn).map nS))) = k2 at e2 D2' R2 ⊢
        refine s_set (w_lst (w_star (w_var rfl ⟨D, _, rfl, .inl D2', ?_⟩)))
        walk_at "w"
        refine w_fld (w_var rfl ⟨_, _, _, _, _, rfl, e2 _ _ z1, cL, T.na_Lengths__start, rfl, ?_⟩)
        walk_at "w"
        refine r_strI (log_small (by omega) (by omega)) ?_
        walk_at "w"
        refine w_fld (w_var rfl ⟨_, _, _, _, _, rfl, e2 _ _ z1, cL, T.na_Lengths__period, rfl, ?_⟩)
        walk_at "w"
        refine r_strI (log_small (by omega) (by omega)) ?_
        walk_at "w"
        refine w_star (w_var rfl ⟨D2, _, rfl, .inl R2, w_nil ?_⟩)
        have we : strV ((idx nr).map nS) ++ V.str (Str.ofString "from") :: V.str (Str.ofString (toString ((nr.length : Nat) : Int))) :: V.str (Str.ofString "by") :: V.str (Str.ofString (toString ((tn.length : Nat) : Int))) :: V.str (Str.ofString "at") :: (strV ((idx tn).map nS) ++ []) = strV (wordsT nr tn) := by
          unfold wordsT tailW strV
          rw [if_neg hne, List.append_nil, List.map_append, from_eq, by_eq, at_eq]
          rfl
        refine ⟨?_, fun Dw hDw => ?_⟩
        · have := congrArg List.length we
          have wl := (words_len F).1
          unfold strV at this
          rw [List.length_map (as := wordsT nr tn)] at this
          exact Nat.le_trans (Nat.le_of_eq this) (by omega)
        · refine ⟨rfl, ext_tr e2 (ext_new hDw), Dw, _, _, rfl, ?_⟩
          rw [upd_same]
          exact congrArg (fun l => some (HO.lst l)) we
      · have he : idx tn = [] := by
          cases z : idx tn with
          | nil => rfl
          | cons x r => rw [z] at hb; cases hb
        walk_at "wi"
        refine ⟨rfl, e1, D, _, _, rfl, ?_⟩
        unfold wordsT tailW
        rw [if_pos he, List.append_nil]
        exact D1
    · rintro σ' k' n' ⟨rfl, ek, Dw, x2, x3, rfl, hw⟩
      obtain ⟨wl, wm⟩ := words_len F
      refine s_seq (s_if (w_not (w_tru (w_var rfl ⟨Dw, _, rfl, .inl hw, fun hb => ?_, fun hb => ?_⟩))))
      · have he : wordsT nr tn = [] := by
          cases z : wordsT nr tn with
          | nil => rfl
          | cons x r => rw [z] at hb; cases hb
        walk_at "wi"
        have := h k' ek 0
        unfold lnT at this
        rw [if_pos he, ← none_eq] at this
        exact this
      · have hne : wordsT nr tn ≠ [] := fun z => by rw [z] at hb; cases hb
        refine s_next (s_ret (w_m1 ?_))
        walk_at "w"
        refine ⟨⟨_, rfl⟩, ?_⟩
        walk_at "w"
        refine r_joinQ hw ?_ ?_
        · have := sum_le (f := fun x : Str => x.length) (m := 14) (l := wordsT nr tn) wm
          have hs : (Str.ofString " ").length = 1 := by decide +kernel
          rw [hs]
          omega
        · have := h k' ek 0
          unfold lnT at this
          rw [if_neg hne, ← sp_eq] at this
          exact this
end

end NN

namespace NN
open PySem PySem.Spec PyProof.Rows L2 LamX AW ClX
open Tx1 Ln
/-! ### texts read -/
theorem minus_eq : (Str.ofString "-") = minusS := by decide +kernel
theorem len_rp (x : Str) : (Txt.removeprefix x minusS).length ≤ x.length := by
  rw [lenT, lenT, rp_tl]
  split
  · rw [List.length_drop]; omega
  · exact Nat.le_refl _
theorem log_lt {i : Int} {k : Nat} (h : i.natAbs < 2 ^ k) : i.natAbs.log2 < k + 1 := by
  by_cases z : i.natAbs = 0
  · rw [z]; exact Nat.succ_pos _
  · exact Nat.lt_succ_of_lt ((Nat.log2_lt z).mpr h)
def Asc (x : Str) : Prop := (∀ c ∈ TL.tl x, c < 128) ∧ x.length ≤ 900
def bRN : List V → Hp → AK → AXK → Prop := fun vs kn Q _ => ∃ x : Str, vs = [.str x] ∧ Asc x ∧ (∀ n, isN x n → Q (.int n) kn) ∧ ((∀ n, ¬ isN x n) → Q .non kn)
theorem mo_rn : MonoX bRN := by
  rintro vs kn Q R E F h1 h2 ⟨x, a, b, c, d⟩
  exact ⟨x, a, b, fun n hn => h1 _ _ (c n hn), fun hn => h1 _ _ (d hn)⟩
open Classical in
noncomputable def rnV (x : Str) : V := if h : ∃ n, isN x n then .int (Classical.choose h) else .non
noncomputable def rnF : V → V
  | .str x => rnV x
  | v => v
theorem rnV_is {x : Str} {n : Int} (h : isN x n) : rnV x = .int n := by
  unfold rnV
  rw [dif_pos ⟨n, h⟩]
  rw [isN_uni (Classical.choose_spec (⟨n, h⟩ : ∃ n, isN x n)) h]
theorem rnV_no {x : Str} (h : ∀ n, ¬ isN x n) : rnV x = .non := by
  unfold rnV
  rw [dif_neg (fun ⟨n, z⟩ => h n z)]
theorem inV_str (x : Str) : ∀ ws : List Str, inV (.str x) (strV ws) = decide (x ∈ ws)
  | [] => rfl
  | w :: ws => by
    have ih := inV_str x ws
    unfold inV strV at ih ⊢
    rw [List.map_cons, List.any_cons, ih]
    show (w == x || decide (x ∈ ws)) = _
    by_cases e : w = x
    · subst e
      simp
    · have e2 : ¬ x = w := fun z => e z.symm
      rw [beq_eq_false_iff_ne.2 e, Bool.false_or]
      exact decide_eq_decide.2 ⟨fun h => .tail _ h, fun h => (List.mem_cons.1 h).resolve_left e2⟩
theorem flat_strs (ws : List Str) : (strV ws).all flatV = true := by
  unfold strV
  rw [List.all_map]
  exact List.all_eq_true.2 fun _ _ => rfl
theorem pick_six {a b c d e f : V} {r : List V} : pick3 (a :: b :: c :: d :: e :: f :: r) (some 0) (some 6) (some 2) = [a, c, e] := by
  unfold pick3
  have hb : sliceBounds (some 0) (some 6) (some 2) (a :: b :: c :: d :: e :: f :: r).length = (0, 6, 2) := by
    unfold sliceBounds
    simp only [List.length_cons, Option.getD_some]
    have h : (((r.length + 1 + 1 + 1 + 1 + 1 + 1 : Nat)) : Int) = (r.length : Int) + 6 := by omega
    rw [h]
    simp only [show ¬ ((0 : Int) < 0) by decide, show ¬ ((6 : Int) < 0) by decide, show ((2 : Int) > 0) by decide, if_true, if_false]
    refine Prod.ext ?_ (Prod.ext ?_ rfl)
    · show max (0 : Int) (min 0 ((r.length : Int) + 6)) = 0
      omega
    · show max (0 : Int) (min 6 ((r.length : Int) + 6)) = 6
      omega
  rw [hb, show sliceRange (0 : Int) 6 2 = [0, 2, 4] by decide +kernel]
  rfl
theorem dp_strs {K : PySem.W.Frag} {H : Hp} : ∀ ns : List Str, DpAll K H (strV ns) (ns.map PyData.str)
  | [] => .nil
  | n :: r => .cons (.str n) (dp_strs r)
theorem nS_isN {n : Nat} (h : n ≤ 1000) : isN (nS n) n := ⟨rfl, Nat.lt_of_le_of_lt (show ((n : Nat) : Int).natAbs ≤ 1000 by omega) (by decide)⟩
theorem nS_asc {n : Nat} (h : n ≤ 1000) : Asc (nS n) := ⟨fun c hc => by have := nS_dig n c hc; omega, Nat.le_trans (nS_len h) (by decide)⟩
theorem map_rn {xs : List Nat} (hx : ∀ m ∈ xs, m ≤ 1000) : ((strV (xs.map nS)).filter (fun _ => true)).map rnF = natV xs := by
  rw [List.filter_eq_self.2 (fun _ _ => rfl)]
  unfold natV strV
  rw [List.map_map, List.map_map]
  apply List.map_congr_left
  intro m hm
  exact rnV_is (nS_isN (hx m hm))
section
variable {c : Cw} {kn : Hp} {n : Nat} {σ : L2.St} {Q : V → Hp → Nat → Prop} {K : PySem.W.Frag}
theorem w_index {i l : Nat} {ws : List Str} {x : Str} {j : Nat} (hv : σ[i]? = some (some (.ref l))) (hl : kn l = some (.lst (strV ws))) (hj : ws[j]? = some x) (hm : ∀ (m : Nat) (z : Str), m < j → ws[m]? = some z → z ≠ x) (q : Q (.int j) kn n) : W c (tBM K "list" (rIndex K) (tVar i) (tCons (tC (.str x)) tNil) σ) kn n Q :=
  fun H g Q' k => ⟨.ref l, hv, .inl ⟨rfl, _, sql (g.ex _ _ hl)⟩, by
    have hw : W c (tCons (tC (.str x)) tNil σ) kn n (fun xs kn' n' => xs = [V.str x] ∧ kn' = kn ∧ n' = n) := w_cons (w_c (w_nil ⟨rfl, rfl, rfl⟩))
    refine hw H g _ fun xs kn' n' H' hx g' => ?_
    obtain ⟨e1, e2, e3⟩ := hx
    subst e1 e2 e3
    refine ⟨l, strV ws, .str x, j, .str x, rfl, rfl, sql (g'.ex _ _ hl), rfl, flat_strs ws, by rw [List.getElem?_map, hj]; rfl, by show (x == x) = true; simp, fun m z' hm2 hz => ?_, k _ _ _ _ q g'⟩
    rw [List.getElem?_map] at hz
    obtain ⟨z, hz1, rfl⟩ := Option.map_eq_some_iff.1 hz
    exact beq_eq_false_iff_ne.2 (hm m z hm2 hz1)⟩
end
section
variable {P : Program} {w : World} {K : PySem.W.Frag} {mg : Str → Option Value} {base : Heap}
theorem ok_read_number (T : Tx K mg) : FnOk P w K mg base CX0 1 T.f_read_number T.d_read_number ["word"] (liftX bRN) := by
  refine T.F_read_number.ok sc_read_number (fun vs H Q E h => ?_) (fun cdv A outer s H vs Q E hr h => ?_)
  · obtain ⟨kn, _, _, x, rfl, _⟩ := h
    rfl
  · obtain ⟨kn, ex, nt, x, rfl, ⟨ha, hl⟩, h1, h2⟩ := h
    refine ⟨_, (pss_cons (ps_set (i := 1) sc_read_number.nd rfl (by first | exact Or.inl rfl | exact Or.inr rfl) (pe_bm PySem.F.plainAttrs_str PySem.F.slot_str_removeprefix (by rfl) m_rp (pv 0) (pa_cons pe_str pa_nil)))
       (pss_cons (ps_if (PW.pt (pw_or (pt_cmpR op_gt (pe_callB c_lenS (by rfl) T.b_len PySem.boot_len (pa_cons (pv 1) pa_nil)) (pe_glob (v := .int 12) (by rfl) (Classical.choose_spec T.g_DIGITS) ⟨_, rfl⟩) (nomark _)) (pw_or1 (pt_not (pt_val (pe_bm0 PySem.F.plainAttrs_str PySem.F.slot_str_isdecimal PySem.F.type_str_isdecimal m_dec (pv 1)))))))
       (pss_one (ps_ret pe_non))
       pss_nil)
       (pss_cons (ps_set (i := 2) sc_read_number.nd rfl (by first | exact Or.inl rfl | exact Or.inr rfl) (pe_callTy c_intS (by rfl) T.b_int boot_int (pa_cons (pv 0) pa_nil)))
       (pss_one (ps_ret (pe_ifExp (pt_cmpR op_eq (pe_callTy c_strI (by rfl) T.b_str (by decide +kernel) (pa_cons (pv 2) pa_nil)) (pv 0) (nomark _)) (pv 2) pe_non)))))), ?_⟩
    refine body_of (pure_start ex nt) ?_
    walk_at "wi"
    refine w_bmS ?_
    walk_at "wi"
    refine ⟨⟨_, rfl⟩, ?_⟩
    walk_at "wi"
    refine r_rp (by omega) ?_
    rw [minus_eq]
    walk_at "wi"
    have hlr := len_rp x
    refine r_lenS (by omega) ?_
    walk_at "wi"
    refine ⟨fun hb => ?_, fun hb => ⟨fun _ => ?_, fun z => absurd z (by decide)⟩⟩
    · have hb := of_decide_eq_false hb
      walk_at "wi"
      refine w_bmS0 ?_
      walk_at "wi"
      refine ⟨⟨_, rfl⟩, ?_⟩
      refine r_dec ?_
      walk_at "wi"
      refine ⟨fun hd => ?_, fun hd => ?_⟩
      · walk_at "wi"
        exact h2 (rn_no (.inr (by simpa using hd))) 0
      · obtain ⟨i, hi, hin, hl2, hu⟩ := rn_yes ha (by omega) (by simpa using hd)
        walk_at "wi"
        refine r_intS hi (by omega) ?_
        walk_at "wi"
        refine r_strI (Nat.lt_trans (log_lt (k := 40) (by omega)) (by decide)) ?_
        walk_at "wi"
        refine ⟨fun he => ?_, fun he => ?_⟩
        · walk_at "wi"
          exact h1 i ⟨(V.str.inj (of_decide_eq_true he)).symm, hin⟩ 0
        · walk_at "wi"
          refine h2 (fun m hm => of_decide_eq_false he ?_) 0
          rw [← hu m hm]
          exact congrArg V.str hm.1.symm
    · have hb := of_decide_eq_true hb
      walk_at "wi"
      exact h2 (rn_no (.inl (by omega))) 0
end

end NN

namespace NN
open PySem PySem.Spec PyProof.Rows L2 LamX AW ClX
-- a stay that is known
local macro_rules | `(tactic| walk_at "st") => `(tactic| first
  | assumption
  | ((with_reducible refine' StayAt.ext ?h1 ?h2); (case h1 => assumption); (case h2 => walk_at "st"))
  | ((with_reducible refine' StayAt.ext ?h1 ?h2); (case h1 => exact ext_new (by assumption)); (case h2 => walk_at "st")))
local macro_rules | `(tactic| walk_at "w2") => `(tactic| first
  | ((with_reducible refine' w_first ?h1 ?h2 ?h3 ?h4 ?_); (case h3 => rfl); (case h4 => walk_at "st"); (case h1 => assumption); (case h2 => assumption))
  | ((with_reducible refine' w_after ?h1 ?h2 ?h3 ?h4 ?_); (case h3 => rfl); (case h4 => walk_at "st"); (case h1 => assumption); (case h2 => assumption))
  | ((with_reducible refine' w_nights ?h1 ?h2 ?h3 ?h4 ?_); (case h3 => rfl); (case h4 => walk_at "st"); (case h1 => assumption); (case h2 => assumption)))
local macro_rules | `(tactic| walk_at "w") => `(tactic| repeat (first | walk_at "w1" | walk_at "w2" | dsimp only))
local macro_rules | `(tactic| walk_at "wi") => `(tactic| repeat (first | walk_at "w1" | walk_at "w2" | with_reducible refine' s_if ?_ | dsimp only))

open Tx1 Ln
/-! ### texts of any kind -/
theorem Asc_ok {x : Str} (h : Asc x) : PyData.strOk x = true := by
  unfold PyData.strOk
  rw [Array.all_eq_true']
  intro c hc
  have := h.1 c (by simpa [TL.tl] using hc)
  refine decide_eq_true ?_
  omega
theorem lay_strs : ∀ ns : List Str, (∀ s ∈ ns, PyData.strOk s = true) → PyData.canLayAll0 (ns.map PyData.str) = true
  | [], _ => by simp [PyData.canLayAll0]
  | n :: r, h => by simp only [List.map_cons, PyData.canLayAll0, PyData.canLay0]; rw [h n List.mem_cons_self, lay_strs r (fun s hs => h s (List.mem_cons_of_mem _ hs))]; rfl
theorem deep_strs : ∀ ns : List Str, PyData.depthAll (ns.map PyData.str) = 0
  | [] => by simp [PyData.depthAll]
  | n :: r => by simp only [List.map_cons, PyData.depthAll, PyData.depth]; rw [deep_strs r]; rfl
theorem shaped_strs (ns : List Str) (h : ∀ s ∈ ns, PyData.strOk s = true) : SeqAt.shaped (.list (ns.map PyData.str)) = true := by
  unfold SeqAt.shaped
  rw [show PyData.canLay0 (.list (ns.map PyData.str)) = true by simp only [PyData.canLay0]; exact lay_strs ns h, show PyData.depth (.list (ns.map PyData.str)) = 1 by simp only [PyData.depth]; rw [deep_strs ns]]
  rfl
theorem eqv_strs : ∀ a b : List Str, PyData.eqvAll (a.map PyData.str) (b.map PyData.str) = decide (a = b)
  | [], [] => by simp [PyData.eqvAll]
  | [], _ :: _ => by simp [PyData.eqvAll]
  | _ :: _, [] => by simp [PyData.eqvAll]
  | x :: a, y :: b => by
    simp only [List.map_cons, PyData.eqvAll, PyData.eqv, eqv_strs a b]
    rw [Bool.eq_iff_iff]
    simp
theorem eqv_strL (a b : List Str) : PyData.eqv (.list (a.map PyData.str)) (.list (b.map PyData.str)) = decide (a = b) := by
  simp only [PyData.eqv]
  exact eqv_strs a b
theorem rn_int {x : Str} {i : Int} (h : rnV x = .int i) : isN x i := by
  unfold rnV at h
  split at h
  · next hh =>
    have := Classical.choose_spec hh
    rw [V.int.inj h] at this
    exact this
  · cases h
theorem rn_nats : ∀ {r : List Str} {ys : List Nat}, r.map rnV = natV ys → ∀ {zs : List Nat}, r = zs.map nS → (∀ z ∈ zs, z ≤ 1000) → ys = zs
  | [], [], _, zs, e, _ => by cases zs with | nil => rfl | cons a b => cases e
  | [], _ :: _, h, _, _, _ => by cases h
  | _ :: _, [], h, _, _, _ => by cases h
  | x :: r, y :: ys, h, zs, e, hz => by
    cases zs with
    | nil => cases e
    | cons z zs =>
      have h1 := (List.cons.inj h).1
      have h2 := (List.cons.inj h).2
      have e1 := (List.cons.inj e).1
      have e2 := (List.cons.inj e).2
      rw [rn_nats h2 e2 (fun a ha => hz a (.tail _ ha))]
      have := isN_uni (rn_int h1) (by rw [e1]; exact nS_isN (hz z (.head _)))
      congr 1
      omega
theorem mem_glueL {z : List Nat} {c : Nat} {p : Str} : ∀ {ps : List Str}, p ∈ ps → c ∈ TL.tl p → c ∈ PySem.StrLaws.glueL z ps
  | [], h, _ => nomatch h
  | a :: r, h, hc => by
    simp only [PySem.StrLaws.glueL]
    rcases List.mem_cons.1 h with h | h
    · subst h
      simp [TL.tl] at hc
      simp [hc]
    · have := mem_glueL (z := z) h hc
      simp [this]
theorem split_sub {x y p : Str} (h : p ∈ Txt.split x y) : ∀ c ∈ TL.tl p, c ∈ TL.tl x := by
  intro c hc
  have e := PySem.StrLaws.join_split x y
  rw [← PySem.StrLaws.glued_eq_join] at e
  revert h e
  generalize Txt.split x y = ps
  intro h e
  cases ps with
  | nil => cases h
  | cons a r =>
    have := PySem.StrLaws.glued_list y a r
    rw [e] at this
    show c ∈ x.cps.toList
    rw [this]
    simp only [PySem.StrLaws.glueT]
    rcases List.mem_cons.1 h with h | h
    · subst h
      simp [TL.tl] at hc
      simp [hc]
    · have := mem_glueL (z := y.cps.toList) h hc
      simp [this]
theorem split_asc {x p : Str} (h : p ∈ Txt.split x Tx1.spS) (a : Asc x) : Asc p :=
  ⟨fun c hc => a.1 c (split_sub h c hc), Nat.le_trans (part_short h) a.2⟩
abbrev BadT (B : Addr) (kn : Hp) (E : AXK) : Prop := ∀ d kn', Ext kn kn' → kn d = none → kn' d = some (.xd [("word", .int 0), ("line", .int 0)]) → E (.ref B) (some d) kn'
def isL (x : Str) : Prop := ∃ nr tn, Form nr tn ∧ x = lnT nr tn
def pick6 : List Str → List Str
  | [] => []
  | [a] => [a]
  | [a, _] => [a]
  | [a, _, c] => [a, c]
  | [a, _, c, _] => [a, c]
  | a :: _ :: c :: _ :: e :: _ => [a, c, e]
theorem pick_6 (ws : List Str) : pick3 (strV ws) (some 0) (some 6) (some 2) = strV (pick6 ws) := by
  have aux : ∀ (xs : List V) (m : Int) (js : List Nat), min 6 ((xs.length : Nat) : Int) = m → 0 ≤ m → sliceRange (0 : Int) m 2 = js → pick3 xs (some 0) (some 6) (some 2) = js.filterMap (xs[·]?) := by
    intro xs m js h1 h2 h3
    unfold pick3
    have hb : sliceBounds (some 0) (some 6) (some 2) xs.length = (0, m, 2) := by
      unfold sliceBounds
      simp only [Option.getD_some]
      simp only [show ¬ ((0 : Int) < 0) by decide, show ¬ ((6 : Int) < 0) by decide, show ((2 : Int) > 0) by decide, if_true, if_false]
      refine Prod.ext ?_ (Prod.ext ?_ rfl)
      · show max (0 : Int) (min 0 ((xs.length : Nat) : Int)) = 0
        omega
      · show max (0 : Int) (min 6 ((xs.length : Nat) : Int)) = m
        omega
    rw [hb]
    simp only []
    rw [h3]
  match ws with
  | [] => exact aux _ 0 [] (by decide) (by decide) (by decide +kernel)
  | [a] => exact aux _ 1 [0] (by show min (6 : Int) ((1 : Nat) : Int) = 1; decide) (by decide) (by decide +kernel)
  | [a, b] => exact aux _ 2 [0] (by show min (6 : Int) ((2 : Nat) : Int) = 2; decide) (by decide) (by decide +kernel)
  | [a, b, c] => exact aux _ 3 [0, 2] (by show min (6 : Int) ((3 : Nat) : Int) = 3; decide) (by decide) (by decide +kernel)
  | [a, b, c, d] => exact aux _ 4 [0, 2] (by show min (6 : Int) ((4 : Nat) : Int) = 4; decide) (by decide) (by decide +kernel)
  | [a, b, c, d, e] => exact aux _ 5 [0, 2, 4] (by show min (6 : Int) ((5 : Nat) : Int) = 5; decide) (by decide) (by decide +kernel)
  | a :: b :: c :: d :: e :: f :: r => exact aux _ 6 [0, 2, 4] (by simp only [strV, List.map_cons, List.length_cons, List.length_map]; omega) (by decide) (by decide +kernel)
theorem pick6_at {ws : List Str} {a c e : Str} (h : pick6 ws = [a, c, e]) : ∃ b d r, ws = a :: b :: c :: d :: e :: r := by
  match ws, h with
  | [], h => cases h
  | [_], h => cases h
  | [_, _], h => cases h
  | [_, _, _], h => cases h
  | [_, _, _, _], h => cases h
  | x :: b :: y :: d :: z :: r, h =>
    have h1 := (List.cons.inj h).1
    have h2 := (List.cons.inj (List.cons.inj h).2).1
    have h3 := (List.cons.inj (List.cons.inj (List.cons.inj h).2).2).1
    exact ⟨b, d, r, by rw [h1, h2, h3]⟩
theorem pick6_sub {s : Str} : ∀ {ws : List Str}, s ∈ pick6 ws → s ∈ ws
  | [], h => h
  | [_], h => h
  | [_, _], h => by
    rw [List.mem_singleton.1 h]
    exact .head _
  | [a, b, c], h => by
    simp only [pick6, List.mem_cons, List.mem_nil_iff, or_false] at h
    rcases h with rfl | rfl <;> simp
  | [a, b, c, d], h => by
    simp only [pick6, List.mem_cons, List.mem_nil_iff, or_false] at h
    rcases h with rfl | rfl <;> simp
  | a :: b :: c :: d :: e :: r, h => by
    simp only [pick6, List.mem_cons, List.mem_nil_iff, or_false] at h
    rcases h with rfl | rfl | rfl <;> simp
theorem rn_any {x : Str} {kn : Hp} {Q : AK} {E : AXK} (a : Asc x) (h : Q (rnV x) kn) : bRN [.str x] kn Q E := ⟨x, rfl, a, fun n hn => by rw [← rnV_is hn]; exact h, fun hn => by rw [← rnV_no hn]; exact h⟩
theorem any_rn {K : PySem.W.Frag} {kn : Hp} (x : Str) : AnyN K kn (rnV x) := by
  unfold rnV
  split
  · exact .inl ⟨_, rfl⟩
  · exact .inr ⟨_, _, .base .non, kit_ty rfl, fun z => nomatch z⟩
def bParse (C BL TM BT : Addr) : List V → Hp → AK → AXK → Prop := fun vs kn Q E => ∃ x : Str, vs = [.str x] ∧ Asc x ∧
  (∀ nr tn, Form nr tn → (∀ nr' tn', Form nr' tn' → x = lnT nr' tn' → nr' = nr ∧ tn' = tn) → NewL C kn nr tn Q) ∧ (¬ isL x → BadT BT kn E) ∧ (¬ isL x → ∀ d k, Ext kn k → E (.ref BL) (some d) k) ∧ (¬ isL x → ∀ d k, Ext kn k → E (.ref TM) (some d) k)
theorem mo_parse {C BL TM BT : Addr} : MonoX (bParse C BL TM BT) := by
  rintro vs kn Q R E F h1 h2 ⟨x, a, b, c, d, e, f⟩
  exact ⟨x, a, b, fun nr tn g u y k z1 z2 z3 => h1 _ _ (c nr tn g u y k z1 z2 z3), fun no dd k z1 z2 z3 => h2 _ _ _ (d no dd k z1 z2 z3), fun no dd k z => h2 _ _ _ (e no dd k z), fun no dd k z => h2 _ _ _ (f no dd k z)⟩
section
variable {c : Cw} {kn : Hp} {n : Nat} {σ : L2.St} {Q : V → Hp → Nat → Prop} {K : PySem.W.Frag}
/-- [read_number(word) for word in a list of texts] -/
theorem w_rns {te : TE} {i : Nat} {ws : List Str} (hte : ∀ R : V → Hp → Nat → Prop, (∀ q k', Ext kn k' → k' q = some (.lst (strV ws)) → R (.ref q) k' n) → W c (te σ) kn n R) (hl : ws.length ≤ 2000) (ha : ∀ x ∈ ws, Asc x)
    (hi : ∀ v : V, ((wipe σ [i]).set i (some v))[i]? = some (some v)) (hw : ∀ v : V, wipe ((wipe σ [i]).set i (some v)) [i] = wipe σ [i])
    (h : ∀ D k', Ext kn k' → kn D = none → k' D = some (.lst (ws.map rnV)) → Q (.ref D) k' n) : W c (tLc (iList K te) (gName i) tYes (tCall (liftX bRN) [] E0 (tCons (tVar i) tNil)) [i] σ) kn n Q := by
  refine w_lcP (i_list (hte _ fun q k1 e1 hq => ⟨q, _, rfl, hq, ?_⟩))
  refine ⟨_, _, rnF, fun _ => true, gives_lst, by rw [List.length_map]; omega, fun k e => e _ _ hq, fun x hx2 k ek => ?_, fun D hD => ?_⟩
  · obtain ⟨w, hw2, rfl⟩ := List.mem_map.1 hx2
    refine g_name ⟨rfl, rfl, hw _, w_yesT ⟨rfl, rfl, rfl, fun _ => ?_⟩⟩
    exact w_call (EA := fun _ _ _ _ => False) mo_rn err_no (w_cons (w_var (hi _) (w_nil (rn_any (ha w hw2) ⟨rfl, rfl, rfl⟩))))
  · rw [show List.map rnF (List.filter (fun _ => true) (strV ws)) = ws.map rnV by
      rw [List.filter_eq_self.2 (fun _ _ => rfl)]
      unfold strV
      rw [List.map_map]
      rfl]
    exact h D _ (ext_tr e1 (ext_new hD)) (free_ext e1 hD) upd_same
end
/-- what the words of a text say -/
theorem rests_rn {K : PySem.W.Frag} {kn : Hp} {D : Addr} {ws : List Str} (hD : kn D = some (.lst (ws.map rnV))) (hl : ws.length ≤ 1000) : RestsV K kn (.ref D) (some (ws.map rnV)) :=
  ⟨⟨D, rfl, .inl hD⟩, by rw [List.length_map]; exact hl, fun x hx => by
    obtain ⟨y, _, rfl⟩ := List.mem_map.1 hx
    exact any_rn y⟩
theorem rn_back {zs : List Nat} (h : ∀ z ∈ zs, z ≤ 1000) : (zs.map nS).map rnV = natV zs := by
  unfold natV
  rw [List.map_map]
  exact List.map_congr_left fun m hm => rnV_is (nS_isN (h m hm))
theorem first_cut {ws : List Str} {s : Str} : ∀ {j : Nat}, ws[j]? = some s → (∀ (m : Nat) (z : Str), m < j → ws[m]? = some z → z ≠ s) → ∀ {as bs : List Str}, ws = as ++ s :: bs → s ∉ as → as = ws.take j ∧ s :: bs = ws.drop j := fun {j} hj hm {as bs} e hn => by
  have hl : as.length = j := by
    rcases Nat.lt_trichotomy as.length j with z | z | z
    · exfalso
      refine hm as.length s z ?_ rfl
      rw [e, List.getElem?_append_right (Nat.le_refl _), Nat.sub_self]
      rfl
    · exact z
    · exfalso
      rw [e, List.getElem?_append_left z] at hj
      exact hn (List.mem_of_getElem? hj)
  subst hl
  rw [e]
  exact ⟨by simp, by simp⟩
theorem mask1 : maskOf 1 [] = [false] := rfl
theorem least1 : leastP [false] = 1 := by decide
theorem fin_T : formT 1 [] = [false] := by decide
theorem again_N {nr tn : List Bool} (F : Form nr tn) : formN nr.length tn.length (idx nr) (idx tn) = nr := by
  unfold formN
  rw [mask_idx, mask_idx, F.per, (form_again F).2, List.take_length]
theorem again_T {tn : List Bool} {nr : List Bool} (F : Form nr tn) : formT tn.length (idx tn) = tn := by
  unfold formT
  rw [mask_idx, F.per, List.take_length]
theorem again_small {nr tn : List Bool} (F : Form nr tn) : Small nr.length tn.length (idx nr) (idx tn) := by
  unfold Small
  rw [mask_idx, mask_idx, F.per, (form_again F).2]
  exact F.le
theorem fin_N {nr : List Bool} (F : Form nr [false]) : formN 400 1 (idx nr) [] = nr := by
  unfold formN
  rw [mask1, least1, (form_fin_begin F).1, (form_fin_begin F).2]
theorem fin_small {nr : List Bool} (F : Form nr [false]) : Small 400 1 (idx nr) [] := by
  unfold Small
  rw [mask1, least1, (form_fin_begin F).1]
  exact F.le
theorem words_at {nr tn : List Bool} (h : idx tn ≠ []) : wordsT nr tn = (idx nr).map nS ++ fromS :: nS nr.length :: byS :: nS tn.length :: Tx1.atS :: (idx tn).map nS := by
  unfold wordsT tailW
  rw [if_neg h]
/-- a text that tells a form tells its parts, when it has a 'from' -/
theorem tells_from {x w1 w3 : Str} {ws r : List Str} {j : Nat} (hx : ¬ x = noneS) (hs : Txt.split x Tx1.spS = ws) (hj : ws[j]? = some fromS) (hm : ∀ (m : Nat) (z : Str), m < j → ws[m]? = some z → z ≠ fromS) (hd : ws.drop j = fromS :: w1 :: byS :: w3 :: Tx1.atS :: r) {nr tn : List Bool} (F : Form nr tn) (e : x = lnT nr tn) :
    GoodA (rnV w1) (rnV w3) (some ((ws.take j).map rnV)) (some (r.map rnV)) nr.length tn.length (idx nr) (idx tn) ∧ Small nr.length tn.length (idx nr) (idx tn) ∧ formN nr.length tn.length (idx nr) (idx tn) = nr ∧ formT tn.length (idx tn) = tn := by
  have hw : wordsT nr tn ≠ [] := fun z => hx (by rw [e]; unfold lnT; rw [if_pos z])
  rw [e, split_lnT hw] at hs
  have fl := F.le
  have hi : idx tn ≠ [] := fun z => by
    have hn : fromS ∈ wordsT nr tn := by rw [hs]; exact List.mem_of_getElem? hj
    unfold wordsT tailW at hn
    rw [if_pos z, List.append_nil] at hn
    exact not_from hn
  rw [words_at hi] at hs
  obtain ⟨c1, c2⟩ := first_cut hj hm hs.symm (fun z => by
    obtain ⟨m, _, hz⟩ := List.mem_map.1 z
    exact nS_from m hz)
  rw [hd] at c2
  have d1 := (List.cons.inj (List.cons.inj c2).2).1
  have d3 := (List.cons.inj (List.cons.inj (List.cons.inj (List.cons.inj c2).2).2).2).1
  have d5 := (List.cons.inj (List.cons.inj (List.cons.inj (List.cons.inj (List.cons.inj c2).2).2).2).2).2
  refine ⟨⟨⟨?_, by omega⟩, ⟨?_, fun m h => (mem_idx.1 h).1⟩, ⟨?_, F.pos, by omega⟩, ?_, fun m h => (mem_idx.1 h).1⟩, again_small F, again_N F, again_T F⟩
  · rw [← d1]; exact rnV_is (nS_isN (by omega))
  · rw [← c1, rn_back (fun z hz => by have := (mem_idx.1 hz).1; omega)]
  · rw [← d3]; exact rnV_is (nS_isN (by omega))
  · rw [← d5, rn_back (fun z hz => by have := (mem_idx.1 hz).1; omega)]
theorem tells_none {x : Str} {ws : List Str} (hx : ¬ x = noneS) (hs : Txt.split x Tx1.spS = ws) (hn : ¬ fromS ∈ ws) {nr tn : List Bool} (F : Form nr tn) (e : x = lnT nr tn) :
    GoodA (.int 400) (.int 1) (some (ws.map rnV)) (some (natV [])) 400 1 (idx nr) [] ∧ Small 400 1 (idx nr) [] ∧ formN 400 1 (idx nr) [] = nr ∧ formT 1 [] = tn := by
  have hw : wordsT nr tn ≠ [] := fun z => hx (by rw [e]; unfold lnT; rw [if_pos z])
  rw [e, split_lnT hw] at hs
  have fl := F.le
  have hi : idx tn = [] := Classical.byContradiction fun z => hn (by rw [← hs, words_at z]; simp)
  have ht := form_fin F hi
  subst ht
  have we : wordsT nr [false] = (idx nr).map nS := by
    unfold wordsT tailW
    rw [if_pos hi, List.append_nil]
  refine ⟨⟨⟨rfl, by decide⟩, ⟨?_, fun m h => by have := (mem_idx.1 h).1; omega⟩, ⟨rfl, by decide, by decide⟩, rfl, fun m h => (by cases h)⟩, fin_small F, fin_N F, fin_T⟩
  rw [← hs, we, rn_back (fun z hz => by have := (mem_idx.1 hz).1; omega)]
/-- what a text's numbers make -/
theorem parse_make {K : PySem.W.Frag} {C BL TM : Addr} {x : Str} {v lo u re : V} {ol orr : Option (List V)} {kn kn1 : Hp} {Q : AK} (e : Ext kn kn1) (av : AnyN K kn1 v) (rl : RestsV K kn1 lo ol) (au : AnyN K kn1 u) (rr : RestsV K kn1 re orr)
    (key : ∀ nr tn, Form nr tn → x = lnT nr tn → ∃ st p xs ys, GoodA v u ol orr st p xs ys ∧ Small st p xs ys ∧ formN st p xs ys = nr ∧ formT p ys = tn)
    (h : ∀ nr tn, Form nr tn → (∀ nr' tn', Form nr' tn' → x = lnT nr' tn' → nr' = nr ∧ tn' = tn) → NewL C kn nr tn Q) :
    MakeL K C BL TM v lo u re kn1 Q (fun cls d k => (cls = .ref BL ∨ cls = .ref TM) ∧ Ext kn k ∧ d.isSome ∧ ¬ isL x) := by
  refine ⟨ol, orr, av, rl, au, rr, fun st p xs ys gd sm y k e2 n l => ?_, fun st p xs ys gd sm d k e2 n hd => ⟨.inr rfl, ext_tr e e2, rfl, ?_⟩, fun part nb d k e2 n hd => ⟨.inl rfl, ext_tr e e2, rfl, ?_⟩⟩
  · refine h _ _ (form_args gd.2.2.1.2.1 sm) (fun nr tn F et => ?_) y k (ext_tr e e2) (free_ext e n) l
    obtain ⟨st', p', xs', ys', gd', sm', f1, f2⟩ := key nr tn F et
    obtain ⟨rfl, rfl, rfl, rfl⟩ := gd.uniq gd'
    exact ⟨f1.symm, f2.symm⟩
  · rintro ⟨nr, tn, F, et⟩
    obtain ⟨st', p', xs', ys', gd', sm', f1, f2⟩ := key nr tn F et
    obtain ⟨rfl, rfl, rfl, rfl⟩ := gd.uniq gd'
    exact sm sm'
  · rintro ⟨nr, tn, F, et⟩
    obtain ⟨st', p', xs', ys', gd', sm', f1, f2⟩ := key nr tn F et
    exact good_bad gd' nb
theorem first_at {s : Str} : ∀ {ws : List Str}, s ∈ ws → ∃ j : Nat, ws[j]? = some s ∧ ∀ (m : Nat) (z : Str), m < j → ws[m]? = some z → z ≠ s
  | a :: ws, h => by
    by_cases e : a = s
    · exact ⟨0, by rw [← e]; rfl, fun m z hm => absurd hm (Nat.not_lt_zero _)⟩
    · obtain ⟨j, h1, h2⟩ := first_at ((List.mem_cons.1 h).resolve_left fun z => e z.symm)
      refine ⟨j + 1, by rw [List.getElem?_cons_succ]; exact h1, fun m z hm hz => ?_⟩
      cases m with
      | zero => rw [List.getElem?_cons_zero] at hz; exact Option.some.inj hz ▸ e
      | succ m => rw [List.getElem?_cons_succ] at hz; exact h2 m z (Nat.lt_of_succ_lt_succ hm) hz
section
variable {P : Program} {w : World} {K : PySem.W.Frag} {mg : Str → Option Value} {base : Heap}
theorem ok_BadText___init__ (T : Tx K mg) : FnOk P w K mg base CX0 1 T.f_BadText___init__ T.d_BadText___init__ ["self", "line", "word"] (spX2 K "line" "word") := by
  refine T.F_BadText___init__.ok sc_BadText___init__ (fun vs H Q E h => ?_) (fun cdv A outer s H vs Q E hr h => ?_)
  · obtain ⟨a, C, y, z, rfl, _⟩ := h
    rfl
  · obtain ⟨a, C, y, z, rfl, oc, hf, hg, ha, h⟩ := h
    refine ⟨_, (pss_cons (ps_ost (pv 0) (pv 1))
       (pss_one (ps_ost (pv 0) (pv 2)))), ?_⟩
    refine ⟨_, rfl, _, rfl, a, C, rfl, oc, hf, .inl ⟨ha, fun dx hd hda => ?_⟩⟩
    refine ⟨_, rfl, _, rfl, a, C, rfl, oc, hg, .inr ⟨dx, [("line", y)], upd_same, ?_, (show 1 ≤ 900 by decide), h dx hd hda⟩⟩
    rw [upd_ne hda, upd_same]
theorem okH_BadText___init__ (T : Tx K mg) : L2H.FnH P w K mg base CX0 1 T.f_BadText___init__ T.d_BadText___init__ ["self", "line", "word"] (spX2 K "line" "word") := by
  refine T.F_BadText___init__.okH sc_BadText___init__ (fun vs H Q E h => ?_) (fun cdv A outer s H vs Q E p hr h => ?_)
  · obtain ⟨a, C, y, z, rfl, _⟩ := h
    rfl
  · obtain ⟨a, C, y, z, rfl, oc, hf, hg, ha, h⟩ := h
    refine ⟨_, (pss_cons (ps_ost (pv 0) (pv 1))
       (pss_one (ps_ost (pv 0) (pv 2)))), ?_⟩
    refine ⟨_, rfl, _, rfl, a, C, rfl, oc, hf, .inl ⟨ha, fun dx hd hda => ?_⟩⟩
    refine ⟨_, rfl, _, rfl, a, C, rfl, oc, hg, .inr ⟨dx, [("line", y)], upd_same, ?_, (show 1 ≤ 900 by decide), h dx hd hda⟩⟩
    rw [upd_ne hda, upd_same]
end

end NN

namespace NN
open PySem PySem.Spec PyProof.Rows L2 LamX AW ClX
-- a stay that is known
local macro_rules | `(tactic| walk_at "st") => `(tactic| first
  | assumption
  | ((with_reducible refine' StayAt.ext ?h1 ?h2); (case h1 => assumption); (case h2 => walk_at "st"))
  | ((with_reducible refine' StayAt.ext ?h1 ?h2); (case h1 => exact ext_new (by assumption)); (case h2 => walk_at "st")))
local macro_rules | `(tactic| walk_at "w2") => `(tactic| first
  | ((with_reducible refine' w_first ?h1 ?h2 ?h3 ?h4 ?_); (case h3 => rfl); (case h4 => walk_at "st"); (case h1 => assumption); (case h2 => assumption))
  | ((with_reducible refine' w_after ?h1 ?h2 ?h3 ?h4 ?_); (case h3 => rfl); (case h4 => walk_at "st"); (case h1 => assumption); (case h2 => assumption))
  | ((with_reducible refine' w_nights ?h1 ?h2 ?h3 ?h4 ?_); (case h3 => rfl); (case h4 => walk_at "st"); (case h1 => assumption); (case h2 => assumption)))
local macro_rules | `(tactic| walk_at "w") => `(tactic| repeat (first | walk_at "w1" | walk_at "w2" | dsimp only))
local macro_rules | `(tactic| walk_at "wi") => `(tactic| repeat (first | walk_at "w1" | walk_at "w2" | with_reducible refine' s_if ?_ | dsimp only))

open Tx1 Ln
section
variable {P : Program} {w : World} {K : PySem.W.Frag} {mg : Str → Option Value} {base : Heap}
theorem ok_read_parts (T : Tx K mg) : FnOk P w K mg base (L2N.CX P w) 9 T.f_read_parts T.d_read_parts ["text"] (liftX (bParse T.c_Lengths T.c_BadLengths T.c_TooMany T.c_BadText)) := by
  refine T.F_read_parts.okXN sc_read_parts (fun vs H Q E h => ?_) (fun cdv A outer s H vs Q E hr h => ?_)
  · obtain ⟨kn, _, _, x, rfl, _⟩ := h
    rfl
  · obtain ⟨kn, ex, nt, x, rfl, asc, h, gT, gL, gM⟩ := h
    refine ⟨_, (pss_cons (ps_if (pt_cmpR op_eq (pv 0) pe_str (nomark _))
       (pss_one (ps_ret (pe_smeth0 (pe_glob (v := .ref T.c_Lengths) (by rfl) T.g_Lengths rfl) T.cr_Lengths T.sme_Lengths_none (oR_Lengths_none T) (hr.mono (by decide)) pass0)))
       pss_nil)
       (pss_cons (ps_set (i := 1) sc_read_parts.nd rfl (by first | exact Or.inl rfl | exact Or.inr rfl) (pe_splitQ (pv 0) pe_str))
       (pss_cons (ps_if (pt_cmpR c_notInQ pe_str (pv 1) (by rfl))
       (pss_one (ps_ret (pe_make T.mk_Lengths (ok_Lengths___init__ T) (hr.mono (by decide)) (by rfl) T.g_Lengths (Classical.choose_spec T.bd2_Lengths).2 (Classical.choose_spec T.bd2_Lengths).1 (L2N.passes_call (L2N.takes_of rfl rfl rfl rfl) (fun _ _ _ _ h => h)) (pa_cons (pe_cval (pe_glob (v := .ref T.c_Lengths) (by rfl) T.g_Lengths rfl)) (pa_cons (pe_lc (own := [("word", 2)]) (g := gName 2) (by rfl) sc_read_parts.nd (pi_list (pv 1)) (blkOk_by (own := [("word", 2)]) (N := ["text", "words", "word", "at", "low", "form", "start", "period", "rests"]) (sc := defScope s_read_parts) (by decide +kernel)) (fun _ _ _ _ _ => pg_name (i := 2) sc_read_parts.nd rfl (Or.inl rfl)) (fun _ _ _ _ _ => pts_nil) (fun _ _ _ _ _ => (pe_call (ok_read_number T) (hr.mono (by decide)) (by rfl) T.g_read_number T.F_read_number.kp T.bd_read_number .nil pass0 (pa_cons (pv 2) pa_nil)))) pa_nil)))))
       pss_nil)
       (pss_cons (ps_set (i := 3) sc_read_parts.nd rfl (by first | exact Or.inl rfl | exact Or.inr rfl) (pe_bm PySem.F.plainAttrs_list PySem.F.slot_list_index PySem.F.type_list_index mt_index (pv 1) (pa_cons pe_str pa_nil)))
       (pss_cons (ps_par (i := 4) (j := 5) (by rfl) sc_read_parts.nd rfl rfl (by decide) rfl rfl (pa_cons (pe_slice (show SlR _ (rSlL K) from sl_list) (pv 1) po_none (po_some (pv 3))) (pa_cons (pe_slice (show SlR _ (rSlL K) from sl_list) (pv 1) (po_some (pv 3)) po_none) pa_nil)) (by rfl))
       (pss_cons (ps_if (pt_cmpR (op_neD hr.units) (pe_sl3 (k := 2) (by decide) (pv 5) (po_some pe_int) (po_some pe_int) (po_some pe_int)) (pe_lst (pa_cons pe_str (pa_cons pe_str (pa_cons pe_str pa_nil)))) (nomark _))
       (pss_one (L2N.ps_raise rfl (L2N.takes_of rfl rfl rfl rfl) (pmkN_oex T.x_BadText T.fi_BadText___init__ T.ti_BadText (ok_BadText___init__ T) (hr.mono (by decide)) T.bd_BadText___init__ .nil pass0 (by rfl) T.g_BadText (pa_cons pe_int (pa_cons pe_int pa_nil)))))
       pss_nil)
       (pss_cons (ps_par (i := 6) (j := 7) (by rfl) sc_read_parts.nd rfl rfl (by decide) rfl rfl (pa_cons (pe_call (ok_read_number T) (hr.mono (by decide)) (by rfl) T.g_read_number T.F_read_number.kp T.bd_read_number .nil pass0 (pa_cons (pe_ix (show IxR _ (rIxL K) from ix_list) (pv 5) pe_int (fun _ _ => rfl)) pa_nil)) (pa_cons (pe_call (ok_read_number T) (hr.mono (by decide)) (by rfl) T.g_read_number T.F_read_number.kp T.bd_read_number .nil pass0 (pa_cons (pe_ix (show IxR _ (rIxL K) from ix_list) (pv 5) pe_int (fun _ _ => rfl)) pa_nil)) pa_nil)) (by rfl))
       (pss_cons (ps_setLc (i := 8) (own := [("word", 2)]) (g := gName 2) (by rfl) sc_read_parts.nd rfl rfl (sw_true rfl rfl rfl (by decide +kernel)) (pi_list (pe_slice (show SlR _ (rSlL K) from sl_list) (pv 5) (po_some pe_int) po_none)) (blkOk_by (own := [("word", 2)]) (N := ["text", "words", "word", "at", "low", "form", "start", "period", "rests"]) (sc := defScope s_read_parts) (by decide +kernel)) (fun _ _ _ _ _ => pg_name (i := 2) sc_read_parts.nd rfl (Or.inl rfl)) (fun _ _ _ _ _ => pts_nil) (fun _ _ _ _ _ => (pe_call (ok_read_number T) (hr.mono (by decide)) (by rfl) T.g_read_number T.F_read_number.kp T.bd_read_number .nil pass0 (pa_cons (pv 2) pa_nil))))
       (pss_one (ps_ret (pe_make T.mk_Lengths (ok_Lengths___init__ T) (hr.mono (by decide)) (by rfl) T.g_Lengths (Classical.choose_spec T.bd4_Lengths).2 (Classical.choose_spec T.bd4_Lengths).1 (L2N.passes_call (L2N.takes_of rfl rfl rfl rfl) (fun _ _ _ _ h => h)) (pa_cons (pv 6) (pa_cons (pe_lc (own := [("word", 2)]) (g := gName 2) (by rfl) sc_read_parts.nd (pi_list (pv 4)) (blkOk_by (own := [("word", 2)]) (N := ["text", "words", "word", "at", "low", "form", "start", "period", "rests"]) (sc := defScope s_read_parts) (by decide +kernel)) (fun _ _ _ _ _ => pg_name (i := 2) sc_read_parts.nd rfl (Or.inl rfl)) (fun _ _ _ _ _ => pts_nil) (fun _ _ _ _ _ => (pe_call (ok_read_number T) (hr.mono (by decide)) (by rfl) T.g_read_number T.F_read_number.kp T.bd_read_number .nil pass0 (pa_cons (pv 2) pa_nil)))) (pa_cons (pv 7) (pa_cons (pv 8) pa_nil))))))))))))))), ?_⟩
    refine body_of (pure_start ex nt) ?_
    obtain ⟨mu, hmu⟩ := T.cv_Lengths_MOST
    walk_at "wi"
    rw [none_eq]
    refine ⟨fun hb => ?_, fun hb => ?_⟩
    · have hb : x = noneS := V.str.inj (of_decide_eq_true hb)
      have FN : Form [] [false] := form_small (K := K) (kn := upd kn 0 (.lst [])) (lo := .ref 0) (re := .ref 0) (st := 0) (p := 1) (xs := []) (ys := []) ⟨by decide, by decide, by decide, by decide, by decide, fun n hn => (by cases hn), fun n hn => (by cases hn), ⟨0, rfl, .inl upd_same⟩, ⟨0, rfl, .inl upd_same⟩⟩ (show _ ≤ 400 by decide)
      walk_at "wi"
      refine w_smeth mo_new err_no ?_
      walk_at "w"
      refine ⟨rfl, ?_⟩
      walk_at "w"
      refine ⟨rfl, fun y k e n l => h [] [false] FN (fun nr' tn' F' e' => ?_) y k e n l 0⟩
      have hw : wordsT nr' tn' = [] := Classical.byContradiction fun z => lnT_ne_none z (by rw [← e', hb])
      exact words_nil F' hw
    · have hb : ¬ x = noneS := fun z => of_decide_eq_false hb (by rw [z])
      walk_at "wi"
      refine w_m1 ?_
      walk_at "w"
      refine ⟨⟨_, rfl⟩, ?_⟩
      walk_at "w"
      rw [sp_eq]
      have hl := asc.2
      refine r_split (by decide) (by omega) fun p hp => ?_
      obtain ⟨ws, hws⟩ : ∃ ws, Txt.split x Tx1.spS = ws := ⟨_, rfl⟩
      have hasc : ∀ x ∈ ws, Asc x := fun z hz => split_asc (by rw [hws]; exact hz) asc
      have hlen : ws.length ≤ 1000 := by
        rw [← hws]
        have := split_weight x Tx1.spS (by decide)
        have l0 := (List.map (fun x : Str => x.length) (Txt.split x Tx1.spS)).sum.zero_le
        omega
      rw [hws]
      have e1 : Ext kn (upd kn p (.lst (strV ws))) := ext_new hp
      have p1 : (upd kn p (.lst (strV ws))) p = some (.lst (strV ws)) := upd_same
      show WS _ _ _ _ (upd kn p (.lst (strV ws))) _
      generalize upd kn p (.lst (strV ws)) = k1 at e1 p1 ⊢
      walk_at "wi"
      refine r_inQ (.inl p1) rfl (flat_strs _) ?_
      rw [from_eq, inV_str]
      walk_at "wi"
      refine ⟨fun hb2 => ?_, fun hb2 => ?_⟩
      · have hn : ¬ fromS ∈ ws := by simpa using hb2
        walk_at "wi"
        refine w_lenX (EA := fun cls d k' n' => (cls = .ref T.c_BadLengths ∨ cls = .ref T.c_TooMany) ∧ Ext kn k' ∧ d.isSome ∧ ¬ isL x) ?hE ?hW
        case hE =>
          rintro cls d kn' n' H' ⟨hc, e, hs, no⟩ g'
          obtain ⟨dd, rfl⟩ := Option.isSome_iff_exists.1 hs
          rcases hc with rfl | rfl
          · exact gL no dd kn' e n' H' g'
          · exact gM no dd kn' e n' H' g'
        case hW =>
          walk_at "w"
          refine ⟨_, _, _, _, rfl, T.cr_Lengths, hmu, ?_⟩
          walk_at "w"
          refine w_rns (ws := ws) (fun R hR => w_var rfl (hR p k1 ext_rf p1)) (by omega) hasc (fun _ => rfl) (fun _ => rfl) fun D k2 e2 n2 h2 => ?_
          walk_at "w"
          refine ⟨_, _, _, _, rfl, ?_⟩
          refine parse_make (x := x) (Q := fun v k => _) (ext_tr e1 e2) (.inl ⟨_, rfl⟩) (rests_rn h2 hlen) (.inl ⟨_, rfl⟩) (orr := some (natV [])) ⟨⟨_, rfl, .inr (.inr T.kt_dr_Lengths___init__)⟩, Nat.zero_le _, fun x hx => (by cases hx)⟩ (fun nr tn F et => ⟨_, _, _, _, tells_none hb hws hn F et⟩) (fun nr tn F u y k e n l => h nr tn F u y k e n l 0)
      · have hn : fromS ∈ ws := by simpa using hb2
        obtain ⟨j, hj, hm⟩ := first_at hn
        walk_at "wi"
        refine w_index rfl p1 hj hm ?_
        walk_at "wi"
        refine r_slL p1 fun L hL => ?_
        have c1 : cutV (strV ws) none (some ((j : Nat) : Int)) = strV (ws.take j) := by
          rw [cut_hi]
          exact (List.map_take ..).symm
        have c2 : cutV (strV ws) (some ((j : Nat) : Int)) none = strV (ws.drop j) := by
          rw [cut_lo]
          exact (List.map_drop ..).symm
        rw [c1]
        have L2 : (upd k1 L (.lst (strV (ws.take j)))) L = some (.lst (strV (ws.take j))) := upd_same
        have W2 := know (o := .lst (strV (ws.take j))) hL p1
        have e2 := ext_tr e1 (ext_new (o := .lst (strV (ws.take j))) hL)
        generalize upd k1 L (.lst (strV (ws.take j))) = k2 at L2 W2 e2 ⊢
        walk_at "wi"
        refine r_slL W2 fun G hG => ?_
        rw [c2]
        have G3 : (upd k2 G (.lst (strV (ws.drop j)))) G = some (.lst (strV (ws.drop j))) := upd_same
        have L3 := know (o := .lst (strV (ws.drop j))) hG L2
        have e3 := ext_tr e2 (ext_new (o := .lst (strV (ws.drop j))) hG)
        generalize upd k2 G (.lst (strV (ws.drop j))) = k3 at G3 L3 e3 ⊢
        clear c1 c2 W2 L2
        walk_at "wi"
        refine ⟨_, _, rfl, ?_⟩
        walk_at "wi"
        refine w_sl3 ?_
        walk_at "w"
        refine ⟨G, _, rfl, G3, fun q hq => ?_⟩
        rw [pick_6, by_eq, at_eq]
        obtain ⟨fs, hfs⟩ : ∃ fs, ws.drop j = fs := ⟨_, rfl⟩
        have hfa : ∀ z ∈ fs, Asc z := fun z hz => hasc z (List.mem_of_mem_drop (by rw [hfs]; exact hz))
        have hta : ∀ z ∈ ws.take j, Asc z := fun z hz => hasc z (List.mem_of_mem_take hz)
        have hfl : fs.length ≤ 1001 := by rw [← hfs, List.length_drop]; omega
        have htl : (ws.take j).length ≤ 1000 := by rw [List.length_take]; omega
        rw [hfs] at G3 ⊢
        have P4 : (upd k3 q (.lst (strV (pick6 fs)))) q = some (.lst (strV (pick6 fs))) := upd_same
        have G4 := know (o := .lst (strV (pick6 fs))) hq G3
        have L4 := know (o := .lst (strV (pick6 fs))) hq L3
        have e4 := ext_tr e3 (ext_new (o := .lst (strV (pick6 fs))) hq)
        generalize upd k3 q (.lst (strV (pick6 fs))) = k4 at P4 G4 L4 e4 ⊢
        clear G3 L3 hq
        walk_at "wi"
        refine ⟨show 3 ≤ 1000 by decide, fun p2 hp2 => ?_⟩
        refine r_ne_d (.lst (sql (know hp2 P4)) (dp_strs (pick6 fs))) (.lst (sql upd_same) (dp_strs [fromS, byS, Tx1.atS])) (shaped_strs _ fun s hs => Asc_ok (hfa s (pick6_sub hs))) (by decide +kernel) ?_
        rw [eqv_strL]
        have G5 := know (o := .lst [V.str fromS, V.str byS, V.str Tx1.atS]) hp2 G4
        have L5 := know (o := .lst [V.str fromS, V.str byS, V.str Tx1.atS]) hp2 L4
        have e5 := ext_tr e4 (ext_new (o := .lst [V.str fromS, V.str byS, V.str Tx1.atS]) hp2)
        generalize upd k4 p2 (.lst [V.str fromS, V.str byS, V.str Tx1.atS]) = k5 at G5 L5 e5 ⊢
        clear P4 G4 L4 hp2
        walk_at "wi"
        refine ⟨fun hd => ?_, fun hd => ?_⟩
        · have hd : ¬ pick6 fs = [fromS, byS, Tx1.atS] := by simpa using hd
          have no : ¬ isL x := by
            rintro ⟨nr, tn, F, et⟩
            have hw : wordsT nr tn ≠ [] := fun z => hb (by rw [et]; unfold lnT; rw [if_pos z])
            rw [et, split_lnT hw] at hws
            have hi : idx tn ≠ [] := fun z => by
              have hn : fromS ∈ wordsT nr tn := by rw [hws]; exact hn
              unfold wordsT tailW at hn
              rw [if_pos z, List.append_nil] at hn
              exact not_from hn
            rw [words_at hi] at hws
            obtain ⟨_, c2⟩ := first_cut hj hm hws.symm (fun z => by
              obtain ⟨m, _, hz⟩ := List.mem_map.1 z
              exact nS_from m hz)
            rw [hfs] at c2
            refine hd ?_
            rw [← c2]
            obtain ⟨y, ys, hys⟩ : ∃ y ys, idx tn = y :: ys := by
              cases z : idx tn with
              | nil => exact absurd z hi
              | cons y ys => exact ⟨y, ys, rfl⟩
            rw [hys]
            rfl
          walk_at "wi"
          refine s_raise2 T.x_BadText T.nx_BadText_line T.nx_BadText_word err_body ?_
          walk_at "w"
          exact ⟨_, _, rfl, fun d hd => gT no d _ (ext_tr e5 (ext_new hd)) (free_ext e5 hd) upd_same 0⟩
        · have hd : pick6 fs = [fromS, byS, Tx1.atS] := by simpa using hd
          obtain ⟨w1, w3, r, rfl⟩ := pick6_at hd
          walk_at "wi"
          refine w_call (EA := fun _ _ _ _ => False) mo_rn err_no ?_
          walk_at "w"
          refine r_ixL G5 (atI_nat (j := 1) rfl) ?_
          walk_at "w"
          refine rn_any (hfa _ (.tail _ (.head _))) ?_
          walk_at "wi"
          refine w_call (EA := fun _ _ _ _ => False) mo_rn err_no ?_
          walk_at "w"
          refine r_ixL G5 (atI_nat (j := 3) rfl) ?_
          walk_at "w"
          refine rn_any (hfa _ (.tail _ (.tail _ (.tail _ (.head _))))) ?_
          walk_at "wi"
          refine ⟨_, _, rfl, ?_⟩
          simp only [List.length_cons] at hfl
          refine s_seq (s_set ?_)
          refine w_rns (ws := r) (fun R hR => ?_) (by omega) (fun z hz => hfa z (.tail _ (.tail _ (.tail _ (.tail _ (.tail _ hz)))))) (fun _ => rfl) (fun _ => rfl) fun D k6 e6 n6 h6 => ?_
          · walk_at "w"
            refine r_slL G5 fun q hq => ?_
            have c3 : cutV (strV (fromS :: w1 :: byS :: w3 :: Tx1.atS :: r)) (some 5) none = strV r := cut_lo _ 5
            rw [c3]
            exact hR q _ (ext_new hq) upd_same
          · walk_at "wi"
            refine w_lenX (EA := fun cls d k' n' => (cls = .ref T.c_BadLengths ∨ cls = .ref T.c_TooMany) ∧ Ext kn k' ∧ d.isSome ∧ ¬ isL x) ?hE ?hW
            case hE =>
              rintro cls d kn' n' H' ⟨hc, e, hs, no⟩ g'
              obtain ⟨dd, rfl⟩ := Option.isSome_iff_exists.1 hs
              rcases hc with rfl | rfl
              · exact gL no dd kn' e n' H' g'
              · exact gM no dd kn' e n' H' g'
            case hW =>
              walk_at "w"
              refine w_rns (ws := ws.take j) (fun R hR => w_var rfl (hR L k6 ext_rf (e6 _ _ L5))) (by omega) hta (fun _ => rfl) (fun _ => rfl) fun D2 k7 e7 n7 h7 => ?_
              walk_at "w"
              refine ⟨_, _, _, _, rfl, ?_⟩
              refine parse_make (x := x) (Q := fun v k => _) (ext_tr e5 (ext_tr e6 e7)) (any_rn _) (rests_rn h7 htl) (any_rn _) (rests_rn (e7 _ _ h6) (by omega)) (fun nr tn F et => ⟨_, _, _, _, tells_from hb hws hj hm hfs F et⟩) (fun nr tn F u y k e n l => h nr tn F u y k e n l 0)
end
abbrev NewR (C : Addr) (kn : Hp) (x : Str) (Q : AK) : Prop := ∀ nr tn, Form nr tn → x = lnT nr tn → NewL C kn nr tn Q
def bRead (K : PySem.W.Frag) (C B : Addr) : List V → Hp → AK → AXK → Prop := fun vs kn Q E => ∃ x, vs = [.ref C, x] ∧
  ((∃ t, x = .str t ∧ Asc t ∧ NewR C kn t Q ∧ (¬ isL t → BadT B kn E)) ∨ (∃ ty, TyX K kn x ty ∧ PySem.W.kitOne K ty (.type "str") = some false ∧ BadT B kn E))
theorem mo_read {K : PySem.W.Frag} {C B : Addr} : MonoX (bRead K C B) := by
  rintro vs kn Q R E F h1 h2 ⟨x, a, ⟨t, b, c, d, e⟩ | ⟨ty, b, c, d⟩⟩
  · exact ⟨x, a, .inl ⟨t, b, c, fun f g n o y k z1 z2 z3 => h1 _ _ (d f g n o y k z1 z2 z3), fun z y k z1 z2 z3 => h2 _ _ _ (e z y k z1 z2 z3)⟩⟩
  · exact ⟨x, a, .inr ⟨ty, b, c, fun y k z1 z2 z3 => h2 _ _ _ (d y k z1 z2 z3)⟩⟩
theorem exm_12 {K : PySem.W.Frag} {a b c : Value} {q r : Bool} (h : PySem.W.exmOne K a b = some q) (g : PySem.W.exmOne K a c = some r) : PySem.W.exmAny K a [b, c] = some (q || r) := by
  simp only [PySem.W.exmAny, h, g]
  cases q <;> cases r <;> rfl
section
variable {P : Program} {w : World} {K : PySem.W.Frag} {mg : Str → Option Value} {base : Heap}
theorem ok_Lengths_read (T : Tx K mg) : FnOk P w K mg base (L2.CX P w) 11 T.f_Lengths_read T.d_Lengths_read ["cls", "text"] (liftX (bRead K T.c_Lengths T.c_BadText)) := by
  refine T.F_Lengths_read.okX sc_Lengths_read (fun vs H Q E h => ?_) (fun cdv A outer s H vs Q E hr h => ?_)
  · obtain ⟨kn, _, _, x, rfl, _⟩ := h
    rfl
  · obtain ⟨kn, ex, nt, x, rfl, h⟩ := h
    refine ⟨_, (pss_cons (ps_if (pt_not (pt_val (pe_callB call_isi (by rfl) T.b_isinstance (by decide +kernel) (pa_cons (pv 1) (pa_cons (pe_bltn (v := .ty "str") (u := .type "str") (by rfl) T.b_str (by decide +kernel) rfl) pa_nil)))))
       (pss_one (ps_raise rfl (takes_of rfl rfl rfl rfl) (pmk_oex T.x_BadText T.fi_BadText___init__ T.ti_BadText (ok_BadText___init__ T) (hr.mono (by decide)) T.bd_BadText___init__ .nil pass0 (by rfl) T.g_BadText (pa_cons pe_int (pa_cons pe_int pa_nil)))))
       pss_nil)
       (pss_cons (L2H.ps_try_pairX rfl rfl ⟨(by rfl), (by decide), .inl T.g_BadLengths⟩ ⟨(by rfl), (by decide), .inl T.g_TooMany⟩ (L2H.passesAt_of rfl) (takes_of rfl rfl rfl rfl) (fun W pn xe tk tk2 po =>
       (pss_one (ps_set (i := 2) sc_Lengths_read.nd rfl (by first | exact Or.inl rfl | exact Or.inr rfl) (pe_call (ok_read_parts T) (hr.mono (by decide)) (by rfl) T.g_read_parts T.F_read_parts.kp T.bd_read_parts .nil (L2N.passes_call (E := fun (cls : Value) (d : Option Addr) (H' : Hp) => ∀ σ' : L2.St, List.length σ' = 3 → W cls d σ' H') (takesN_len tk) (fun _ _ σ' _ h hl => h σ' hl)) (pa_cons (pv 1) pa_nil))))) (fun aX oX clsX dX pnX zX vX tkS hot =>
       (pss_one (L2H.ps_raiseHN hot tkS (L2H.pmk5_oexH T.x_BadText T.fi_BadText___init__ T.ti_BadText (okH_BadText___init__ T) (L2H.roomH_mark (hr.mono (by decide)) _) hot T.bd_BadText___init__ pass0 (by rfl) T.g_BadText (pa_cons pe_int (pa_cons pe_int pa_nil)))))) (fun _ => rfl))
       (pss_cons (ps_if (pt_cmpR op_ne (pe_callTy (c_strO T.sm_Lengths___str__ (ok_Lengths___str__ T) (hr.mono (by decide)) T.bd_Lengths___str__ pass0) (by rfl) T.b_str (by decide +kernel) (pa_cons (pv 2) pa_nil)) (pv 1) (nomark _))
       (pss_one (ps_raise rfl (takes_of rfl rfl rfl rfl) (pmk_oex T.x_BadText T.fi_BadText___init__ T.ti_BadText (ok_BadText___init__ T) (hr.mono (by decide)) T.bd_BadText___init__ .nil pass0 (by rfl) T.g_BadText (pa_cons pe_int (pa_cons pe_int pa_nil)))))
       pss_nil)
       (pss_one (ps_ret (pv 2)))))), ?_⟩
    refine body_of (pure_start ex nt) ?_
    walk_at "wi"
    rcases h with ⟨t, rfl, asc, hy, hn⟩ | ⟨ty, hty, kt, hbad⟩
    · refine r_isi (.ty _) (.base (.str t)) (kit_ty rfl) ?_
      walk_at "wi"
      refine fun H0 g0 D' fit => ?_
      refine (s_set (?hW0) : WS (pureC kn H) (tAsg _ (gName 2)) _ _ kn 0) H0 g0 D' fit
      refine w_call (EA := fun cls d kn' n' => ¬ isL t ∧ (((cls = .ref T.c_BadLengths ∨ cls = .ref T.c_TooMany) ∧ Ext kn kn') ∨ (cls = .ref T.c_BadText ∧ ∃ dd, d = some dd ∧ Ext kn kn' ∧ kn dd = none ∧ kn' dd = some (.xd [("word", .int 0), ("line", .int 0)])))) mo_parse ?hE ?hW
      case hE =>
        rintro cls d kn' n' H' ⟨no, ⟨hc, e⟩ | ⟨rfl, dd, rfl, e, f1, f2⟩⟩ g' σ' hσ
        · have hx : PySem.W.exmAny K cls [.ref T.c_BadLengths, .ref T.c_TooMany] = some true := by
            rcases hc with rfl | rfl
            · exact exm_12 T.exm_BadLengths_BL T.exm_BadLengths_TM
            · exact exm_12 T.exm_TooMany_BL T.exm_TooMany_TM
          refine ⟨true, hx, fun _ a ha => ?_, fun z => absurd z (by decide)⟩
          refine (s_raise2 T.x_BadText T.nx_BadText_line T.nx_BadText_word err_body ?_ : WS (pureC kn H) _ _ _ kn' n') H' g' D' fit
          walk_at "w"
          exact ⟨_, _, rfl, fun d hd => hn no d _ (ext_tr e (ext_new hd)) (free_ext e hd) upd_same n'⟩
        · refine ⟨false, exm_12 T.exm_BadText_BL T.exm_BadText_TM, fun z => absurd z (by decide), fun _ => ?_⟩
          exact hn no dd kn' e f1 f2 n' H' g'
      case hW =>
        walk_at "w"
        refine ⟨t, rfl, asc, fun nr tn F hu x k e n l => ?_, fun no d k z1 z2 z3 => ⟨no, .inr ⟨rfl, d, rfl, z1, z2, z3⟩⟩, fun no d k z1 => ⟨no, .inl ⟨.inl rfl, z1⟩⟩, fun no d k z1 => ⟨no, .inl ⟨.inr rfl, z1⟩⟩⟩
        walk_at "wi"
        obtain ⟨dx, q1, q2, q3, z1, z2⟩ := l.at_
        refine r_strO mo_str z1 ⟨x, nr, tn, rfl, l, fun k2 e2 => ⟨_, rfl, ?_⟩⟩
        walk_at "wi"
        refine ⟨fun hb => ?_, fun hb => ?_⟩
        · have hb : ¬ lnT nr tn = t := by simpa using hb
          walk_at "wi"
          refine s_raise2 T.x_BadText T.nx_BadText_line T.nx_BadText_word err_body ?_
          walk_at "w"
          refine ⟨_, _, rfl, fun dd hdd => hn (fun ⟨nr', tn', F', et⟩ => hb ?_) dd _ (ext_tr e (ext_tr e2 (ext_new hdd))) (free_ext (ext_tr e e2) hdd) upd_same 0⟩
          obtain ⟨rfl, rfl⟩ := hu nr' tn' F' et
          exact et.symm
        · have hb : lnT nr tn = t := by simpa using hb
          walk_at "wi"
          exact hy nr tn F hb.symm x k2 (ext_tr e e2) n (l.ext e2) 0
    · refine r_isi (.ty _) hty kt ?_
      walk_at "wi"
      refine s_raise2 T.x_BadText T.nx_BadText_line T.nx_BadText_word err_body ?_
      walk_at "w"
      exact ⟨_, _, rfl, fun d hd => hbad d _ (ext_new hd) hd upd_same 0⟩
end

end NN

namespace NN
open PySem PySem.Spec PyProof.Rows L2 LamX AW ClX
-- a stay that is known
local macro_rules | `(tactic| walk_at "st") => `(tactic| first
  | assumption
  | ((with_reducible refine' StayAt.ext ?h1 ?h2); (case h1 => assumption); (case h2 => walk_at "st"))
  | ((with_reducible refine' StayAt.ext ?h1 ?h2); (case h1 => exact ext_new (by assumption)); (case h2 => walk_at "st")))
local macro_rules | `(tactic| walk_at "w2") => `(tactic| first
  | ((with_reducible refine' w_first ?h1 ?h2 ?h3 ?h4 ?_); (case h3 => rfl); (case h4 => walk_at "st"); (case h1 => assumption); (case h2 => assumption))
  | ((with_reducible refine' w_after ?h1 ?h2 ?h3 ?h4 ?_); (case h3 => rfl); (case h4 => walk_at "st"); (case h1 => assumption); (case h2 => assumption))
  | ((with_reducible refine' w_nights ?h1 ?h2 ?h3 ?h4 ?_); (case h3 => rfl); (case h4 => walk_at "st"); (case h1 => assumption); (case h2 => assumption)))
local macro_rules | `(tactic| walk_at "w") => `(tactic| repeat (first | walk_at "w1" | walk_at "w2" | dsimp only))
local macro_rules | `(tactic| walk_at "wi") => `(tactic| repeat (first | walk_at "w1" | walk_at "w2" | with_reducible refine' s_if ?_ | dsimp only))

open Tx1 Ln
section
variable {P : Program} {w : World} {K : PySem.W.Frag} {mg : Str → Option Value} {base : Heap}
theorem ok__law_draw (T : Tx K mg) : FnOk P w K mg base CX0 1 T.f__law_draw T.d__law_draw ["pen", "many"] spDraw := by
  refine T.F__law_draw.ok sc__law_draw (fun vs H Q E h => ?_) (fun cdv A outer s H vs Q E hr h => ?_)
  · obtain ⟨p, a, ns, n, many, rfl, _⟩ := h
    rfl
  · obtain ⟨p, a, ns, n, many, rfl, hp, hn, h0, h1, k⟩ := h
    obtain ⟨⟨i, g, hP, hi0, hin, hg0⟩, hA, hpa⟩ := hp
    refine ⟨_, (pss_cons (ps_if (pt_cmpR op_gt (pe_ix (show IxR _ (rIxL K) from ix_list) (pv 0) pe_int (fun _ _ => rfl)) pe_int (nomark _))
       (pss_cons (ps_set (i := 2) sc__law_draw.nd rfl (by first | exact Or.inl rfl | exact Or.inr rfl) (pe_op op_mod (pe_callTy c_int (by rfl) T.b_int boot_int (pa_cons (pe_ix (show IxR _ (rIxL K) from ix_list) (pv 0) pe_int (fun _ _ => rfl)) pa_nil)) (pv 1)))
       (pss_cons (ps_asg (pe_op op_fdivW (pe_callTy c_int (by rfl) T.b_int boot_int (pa_cons (pe_ix (show IxR _ (rIxL K) from ix_list) (pv 0) pe_int (fun _ _ => rfl)) pa_nil)) (pv 1)) (pg_sub (pv 0) pe_int set_list))
       (pss_one (ps_ret (pv 2)))))
       pss_nil)
       (pss_cons (ps_set (i := 3) sc__law_draw.nd rfl (by first | exact Or.inl rfl | exact Or.inr rfl) (pe_ix (show IxR _ (rIxL K) from ix_list) (pv 0) pe_int (fun _ _ => rfl)))
       (pss_cons (ps_asg (pe_op op_add (pv 3) pe_int) (pg_sub (pv 0) pe_int set_list))
       (pss_cons (ps_set (i := 4) sc__law_draw.nd rfl (by first | exact Or.inl rfl | exact Or.inr rfl) (pe_op op_add (pe_op op_mul pe_int (pv 3)) pe_int))
       (pss_cons (ps_if (pt_cmpR (op_neD hr.units) (pe_ix (show IxR _ (rIxL K) from ix_list) (pv 0) pe_int (fun _ _ => rfl)) (pe_lst pa_nil) (nomark _))
       (pss_one (ps_set (i := 4) sc__law_draw.nd rfl (by first | exact Or.inl rfl | exact Or.inr rfl) (pe_ix (show IxR _ (rIxL K) from ix_list) (pe_ix (show IxR _ (rIxL K) from ix_list) (pv 0) pe_int (fun _ _ => rfl)) (pe_op op_mod (pe_callTy c_int (by rfl) T.b_int boot_int (pa_cons (pv 3) pa_nil)) (pe_callB c_len (by rfl) T.b_len PySem.boot_len (pa_cons (pe_ix (show IxR _ (rIxL K) from ix_list) (pv 0) pe_int (fun _ _ => rfl)) pa_nil))) (fun _ _ => rfl))))
       pss_nil)
       (pss_cons (ps_if (PW.pt (pw_and (pt_cmpR op_lt (pv 3) (pe_callB c_len (by rfl) T.b_len PySem.boot_len (pa_cons (pe_ix (show IxR _ (rIxL K) from ix_list) (pv 0) pe_int (fun _ _ => rfl)) pa_nil)) (nomark _)) (pw_and1 (pt_cmpR op_ge (pe_callB c_abs (by rfl) T.b_abs (by decide +kernel) (pa_cons (pv 4) pa_nil)) (pe_op op_pow pe_int pe_int) (nomark _)))))
       (pss_cons (ps_set (i := 5) sc__law_draw.nd rfl (by first | exact Or.inl rfl | exact Or.inr rfl) (pe_op op_add (pe_op op_mul pe_int (pe_op op_sub (pe_callB c_abs (by rfl) T.b_abs (by decide +kernel) (pa_cons (pv 4) pa_nil)) (pe_op op_pow pe_int pe_int))) (pe_callTy c_int (by rfl) T.b_int boot_int (pa_cons (pe_cmpR op_lt (pv 4) pe_int (nomark _)) pa_nil))))
       (pss_cons (ps_asg (pe_op op_fdivW (pe_callTy c_int (by rfl) T.b_int boot_int (pa_cons (pv 5) pa_nil)) (pv 1)) (pg_sub (pv 0) pe_int set_list))
       (pss_one (ps_ret (pe_op op_mod (pe_callTy c_int (by rfl) T.b_int boot_int (pa_cons (pv 5) pa_nil)) (pv 1))))))
       pss_nil)
       (pss_cons (ps_set (i := 6) sc__law_draw.nd rfl (by first | exact Or.inl rfl | exact Or.inr rfl) (pe_op op_mod (pe_callTy c_int (by rfl) T.b_int boot_int (pa_cons (pe_op op_pow (pe_op op_add (pe_op op_add (pe_op op_mod (pe_callTy c_int (by rfl) T.b_int boot_int (pa_cons (pv 4) pa_nil)) pe_int) (pe_op op_mul pe_int (pv 3))) pe_int) pe_int) pa_nil)) pe_int))
       (pss_cons (ps_set (i := 6) sc__law_draw.nd rfl (by first | exact Or.inl rfl | exact Or.inr rfl) (pe_op op_mod (pe_callTy c_int (by rfl) T.b_int boot_int (pa_cons (pe_op op_pow (pe_op op_add (pe_op op_add (pe_op op_mul (pv 6) (pe_op op_add (pe_op op_mul pe_int (pv 3)) pe_int)) (pe_op op_mul (pe_op op_mul pe_int (pv 3)) (pv 3))) pe_int) pe_int) pa_nil)) pe_int))
       (pss_one (ps_ret (pe_op op_mod (pe_callTy c_int (by rfl) T.b_int boot_int (pa_cons (pe_op op_fdivW (pv 6) pe_int) pa_nil)) (pv 1)))))))))))), ?_⟩
    have e : Ext (penKn H p a) H := fun x o h => by
      unfold penKn at h
      split at h
      · exact h
      · cases h
    have kP : penKn H p a p = some (.lst [.ref a, .int i, .int g]) := (if_pos (.inl rfl)).trans hP
    have kA : penKn H p a a = some (.lst (ns.map V.int)) := (if_pos (.inr rfl)).trans hA
    have done : ∀ (k' : Int) (kn' : Hp) (n' : Nat) (i' g' : Int), 0 ≤ k' → k' < many → kn' p = some (.lst [.ref a, .int i', .int g']) → kn' a = some (.lst (ns.map V.int)) → 0 ≤ i' → i' ≤ (n + 1 : Nat) → 0 ≤ g' → ∀ H', Good (pureC (penKn H p a) H) kn' n' H' → Q (.int k') H' := fun k' kn' n' i' g' b1 b2 e1 e2 b3 b4 b5 H' G => by
      refine k k' H' b1 b2 ⟨⟨i', g', G.ex _ _ e1, b3, b4, b5⟩, G.ex _ _ e2, hpa⟩ fun x o hx hH => ?_
      by_cases hxa : x = a
      · rw [hxa, hA] at hH
        cases hH
        rw [hxa]
        exact G.ex _ _ e2
      · exact G.inv x o hH (.inl (if_neg (by simp [hx, hxa])))
    have hlog : many.natAbs.log2 < 9000 := Nat.lt_trans ((Nat.log2_lt (by omega)).mpr (show many.natAbs < 2 ^ 70 by omega)) (by decide)
    refine body_of (pure_start e (fun x o h => by
      unfold penKn at h
      split at h
      · rename_i hh
        rcases hh with rfl | rfl
        · rw [hP] at h; cases h; rfl
        · rw [hA] at h; cases h; rfl
      · cases h)) ?_
    walk_at "w"
    refine s_if ?_
    walk_at "w"
    refine ⟨fun hg => ?_, fun hg => ?_⟩
    · have hg' : 0 < g := of_decide_eq_true hg
      walk_at "w"
      refine r_I h0 ?_
      walk_at "w"
      refine r_I ⟨h0, hlog⟩ ?_
      walk_at "w"
      refine ⟨_, _, _, 2, rfl, rfl, kP, rfl, ?_⟩
      walk_at "w"
      have kA' : ∀ o, upd (penKn H p a) p o a = some (.lst (ns.map V.int)) := fun o => by rw [upd_ne hpa.symm]; exact kA
      exact done _ _ _ i (g / many) (Int.emod_nonneg _ (by omega)) (Int.emod_lt_of_pos _ h0) upd_same (kA' _) hi0 (by omega) (Int.ediv_nonneg hg0 (by omega))
    · walk_at "w"
      refine ⟨_, _, _, 1, rfl, rfl, kP, rfl, ?_⟩
      have kA1 : ∀ o, upd (penKn H p a) p o a = some (.lst (ns.map V.int)) := fun o => by rw [upd_ne hpa.symm]; exact kA
      have kP1 : ∀ o, upd (penKn H p a) p o p = some o := fun o => upd_same
      walk_at "w"
      refine r_I (.inl ⟨by decide, by decide⟩) ?_
      walk_at "w"
      -- if pen[0] != []
      refine s_join (fun σ' kn' n' => ∃ cell : Int, σ' = [some (.ref p), some (.int many), none, some (.int i), some (.int cell), none, none] ∧ kn' p = some (.lst [.ref a, .int (i + 1), .int g]) ∧ kn' a = some (.lst (ns.map V.int))) ?_ ?_
      · have kP1 := kP1 (.lst [.ref a, .int (i + 1), .int g])
        have kA1 := kA1 (.lst [.ref a, .int (i + 1), .int g])
        refine s_if ?_
        walk_at "w"
        refine ⟨by decide, fun l hl => ?_⟩
        refine r_ne_d (.lst (sql (know hl kA1)) (dp_ints ns)) (.lst (sql upd_same) .nil) (shaped_ints ns) rfl ?_
        walk_at "w"
        rw [nil_eqv]
        refine ⟨fun hb => ?_, fun hb => ?_⟩
        · have hne : ns ≠ [] := by
            intro z
            rw [z] at hb
            cases hb
          have hl0 : 0 < ns.length := by
            cases ns with
            | nil => exact absurd rfl hne
            | cons => exact Nat.succ_pos _
          have kA3 := know (o := .lst []) hl kA1
          have kP3 := know (o := .lst []) hl kP1
          walk_at "w"
          refine r_I (by rw [List.length_map]; omega) ?_
          obtain ⟨z, hz⟩ := at_mod ns i hl0
          refine r_ixL kA3 hz ?_
          walk_at "w"
          exact ⟨kP3, kA3⟩
        · walk_at "w"
          exact ⟨know hl kP1, know hl kA1⟩
      · rintro σ' kn' n' ⟨cell, rfl, kP2, kA2⟩
        have mod1 : ∀ x : Int, 0 ≤ x % many ∧ x % many < many := fun x => ⟨Int.emod_nonneg _ (by omega), Int.emod_lt_of_pos _ h0⟩
        walk_at "w"
        refine s_join (fun σ2 kn2 n2 => σ2 = [some (.ref p), some (.int many), none, some (.int i), some (.int cell), none, none] ∧ kn2 p = some (.lst [.ref a, .int (i + 1), .int g]) ∧ kn2 a = some (.lst (ns.map V.int))) ?_ ?_
        · refine s_if ?_
          walk_at "w"
          refine ⟨fun hb => ?_, fun hb => ?_⟩
          · walk_at "w"
            refine r_I ⟨by decide, by decide, by decide⟩ ?_
            walk_at "w"
            refine ⟨fun hb2 => ?_, fun hb2 => ?_⟩
            · have hc : (10 : Int) ^ (18 : Int).toNat ≤ if cell < 0 then -cell else cell := of_decide_eq_true hb2
              walk_at "w"
              refine r_I ⟨by decide, by decide, by decide⟩ ?_
              walk_at "w"
              refine r_I (.inl ⟨by decide, by decide⟩) ?_
              walk_at "w"
              refine r_I ⟨h0, hlog⟩ ?_
              walk_at "w"
              refine ⟨_, _, _, 2, rfl, rfl, kP2, rfl, ?_⟩
              walk_at "w"
              refine r_I h0 ?_
              refine done _ _ _ (i + 1) _ (mod1 _).1 (mod1 _).2 upd_same (by rw [upd_ne hpa.symm]; exact kA2) (by omega) (by omega) (Int.ediv_nonneg ?_ (by omega))
              split <;> omega
            · walk_at "w"
              exact ⟨rfl, kP2, kA2⟩
          · walk_at "w"
            exact ⟨rfl, kP2, kA2⟩
        · rintro σ2 kn2 n2 ⟨rfl, kP3, kA3⟩
          walk_at "w"
          refine r_I (by decide) ?_
          obtain ⟨x, hx⟩ : ∃ x : Int, x = cell % 2147483563 := ⟨_, rfl⟩
          have x0 : 0 ≤ x := hx ▸ Int.emod_nonneg _ (by decide)
          have x1 : x < 2147483563 := hx ▸ Int.emod_lt_of_pos _ (by decide)
          rw [← hx]
          walk_at "w"
          refine r_I (.inl ⟨by decide, by decide⟩) ?_
          walk_at "w"
          refine r_I ⟨by decide, by decide, by omega⟩ ?_
          walk_at "w"
          refine r_I (by decide) ?_
          generalize ((x + 48673 * i + 739) ^ (5 : Int).toNat) = y
          obtain ⟨z, hz⟩ : ∃ z : Int, z = y % 2147483629 := ⟨_, rfl⟩
          have z0 : 0 ≤ z := hz ▸ Int.emod_nonneg _ (by decide)
          have z1 : z < 2147483629 := hz ▸ Int.emod_lt_of_pos _ (by decide)
          rw [← hz]
          walk_at "w"
          refine r_I (.inl ⟨by decide, by decide⟩) ?_
          walk_at "w"
          refine r_I (.inl ⟨by omega, by omega⟩) ?_
          walk_at "w"
          refine r_I (.inl ⟨by decide, by decide⟩) ?_
          walk_at "w"
          refine r_I (.inl ⟨by omega, by omega⟩) ?_
          walk_at "w"
          obtain ⟨m1, m2⟩ := mul_bd z0 (show z ≤ 2147483629 by omega) (show 0 ≤ 2 * i + 277 by omega) (show 2 * i + 277 ≤ 2000277 by omega)
          obtain ⟨m3, m4⟩ := mul_bd (show 0 ≤ 60913 * i by omega) (show 60913 * i ≤ 60913000000 by omega) hi0 (show i ≤ 1000000 by omega)
          refine r_I ⟨by decide, by decide, by omega⟩ ?_
          walk_at "w"
          refine r_I (by decide) ?_
          walk_at "w"
          refine r_I ⟨by decide, by decide⟩ ?_
          walk_at "w"
          refine r_I h0 ?_
          exact done _ _ _ (i + 1) g (mod1 _).1 (mod1 _).2 kP3 kA3 (by omega) (by omega) hg0

/-- _law_pick -/
def bPick : List V → Hp → AK → AXK → Prop := fun vs kn Q _ => ∃ l xs, vs = [.ref l] ∧ kn l = some (.lst xs) ∧ 0 < xs.length ∧ xs.length ≤ 1000 ∧ ∀ v ∈ xs, Q v kn
theorem mo_pick : MonoX bPick := by
  rintro vs kn Q R E F h1 h2 ⟨l, xs, a, b, c, d, h⟩
  exact ⟨l, xs, a, b, c, d, fun v hv => h1 _ _ (h v hv)⟩
theorem ok__law_pick (T : Tx K mg) (TT : List (Addr × Str)) : FnOk P w K mg base CX0 2 T.f__law_pick T.d__law_pick ["pen", "some"] (liftP TT 1 bPick) := by
  refine T.F__law_pick.ok sc__law_pick (fun vs H Q E h => ?_) (fun cdv A outer s H vs Q E hr h => ?_)
  · obtain ⟨p, a, ns, n, kn, ws, rfl, _, _, l, xs, rfl, _⟩ := h
    rfl
  · obtain ⟨p, a, ns, n, kn, ws, rfl, g, hn, l, xs, rfl, hl, l1, l2, h⟩ := h
    refine ⟨_, (pss_one (ps_ret (pe_ix (show IxR _ (rIxL K) from ix_list) (pv 1) (pe_call (ok__law_draw T) (hr.mono (by decide)) (by rfl) T.g__law_draw T.F__law_draw.kp T.bd__law_draw .nil pass0 (pa_cons (pv 0) (pa_cons (pe_callB c_len (by rfl) T.b_len PySem.boot_len (pa_cons (pv 1) pa_nil)) pa_nil))) (fun _ _ => rfl)))), ?_⟩
    refine body_of g ?_
    walk_at "w"
    refine w_draw ?_
    walk_at "w"
    refine ⟨by omega, by omega, by omega, fun k k0 k1 => ?_⟩
    obtain ⟨j, hj⟩ : ∃ j : Nat, k = j := ⟨k.toNat, by omega⟩
    subst hj
    have hj : j < xs.length := by omega
    refine r_ixL hl (atI_nat (List.getElem?_eq_getElem hj)) ?_
    exact h _ (List.getElem_mem hj)
/-- _law_pen -/
def spPen (K : PySem.W.Frag) : Sp := fun vs H Q _ => ∃ (s : Addr) (ns : List Int), vs = [.ref s] ∧ SqL K H s (ns.map V.int) ∧
  ∀ (p a : Addr) (ns' : List Int) (H' : Hp), p ≠ a → H p = none → H a = none → H' p = some (.lst [.ref a, .int 0, .int 0]) → H' a = some (.lst (ns'.map V.int)) → Ext H H' → Q (.ref p) H'
theorem cut_map (ns : List Int) (lo hi : Option Int) : ∃ ns' : List Int, cutV (ns.map V.int) lo hi = ns'.map V.int := by
  unfold cutV
  exact ⟨(ns.drop _).take _, by rw [List.map_take, List.map_drop]⟩
theorem ok__law_pen (T : Tx K mg) : FnOk P w K mg base CX0 1 T.f__law_pen T.d__law_pen ["script"] (spPen K) := by
  refine T.F__law_pen.ok sc__law_pen (fun vs H Q E h => ?_) (fun cdv A outer s H vs Q E hr h => ?_)
  · obtain ⟨s, ns, rfl, _⟩ := h
    rfl
  · obtain ⟨sc, ns, rfl, hs, h⟩ := h
    refine ⟨_, (pss_one (ps_ret (pe_lst (pa_cons (pe_callTy c_list (by rfl) T.b_list (by decide +kernel) (pa_cons (pe_slice (show SlR _ (rSlL K) from sl_list) (pv 0) po_none (po_some pe_int)) pa_nil)) (pa_cons pe_int (pa_cons pe_int pa_nil)))))), ?_⟩
    obtain ⟨ns', e⟩ := cut_map ns none (some 63)
    refine ⟨_, rfl, _, rfl, sc, _, rfl, hs, fun l hl => ⟨l, _, rfl, .inl (sql upd_same), fun a ha => ⟨(by rw [sizeLine_eq]; exact (show 3 ≤ 16777216 by decide)), fun p hp => ?_⟩⟩⟩
    have la : l ≠ a := fun z => by rw [z, upd_same] at ha; cases ha
    have ha0 : H a = none := by rw [upd_ne (Ne.symm la)] at ha; exact ha
    have pa : p ≠ a := fun z => by rw [z, upd_same] at hp; cases hp
    have pl : p ≠ l := fun z => by rw [z, upd_ne la, upd_same] at hp; cases hp
    have hp0 : H p = none := by rw [upd_ne pa, upd_ne pl] at hp; exact hp
    refine h p a ns' _ pa hp0 ha0 upd_same ?_ ?_
    · rw [upd_ne (Ne.symm pa), upd_same, e]
    · exact fun x o hx => by rw [upd_ne (ne_of_none hx hp0), upd_ne (ne_of_none hx ha0), upd_ne (ne_of_none hx hl)]; exact hx
end

end NN

namespace NN
open PySem PySem.Spec PyProof.Rows L2 LamX AW ClX
-- a stay that is known
local macro_rules | `(tactic| walk_at "st") => `(tactic| first
  | assumption
  | ((with_reducible refine' StayAt.ext ?h1 ?h2); (case h1 => assumption); (case h2 => walk_at "st"))
  | ((with_reducible refine' StayAt.ext ?h1 ?h2); (case h1 => exact ext_new (by assumption)); (case h2 => walk_at "st")))
local macro_rules | `(tactic| walk_at "w2") => `(tactic| first
  | ((with_reducible refine' w_first ?h1 ?h2 ?h3 ?h4 ?_); (case h3 => rfl); (case h4 => walk_at "st"); (case h1 => assumption); (case h2 => assumption))
  | ((with_reducible refine' w_after ?h1 ?h2 ?h3 ?h4 ?_); (case h3 => rfl); (case h4 => walk_at "st"); (case h1 => assumption); (case h2 => assumption))
  | ((with_reducible refine' w_nights ?h1 ?h2 ?h3 ?h4 ?_); (case h3 => rfl); (case h4 => walk_at "st"); (case h1 => assumption); (case h2 => assumption)))
local macro_rules | `(tactic| walk_at "w") => `(tactic| repeat (first | walk_at "w1" | walk_at "w2" | dsimp only))
local macro_rules | `(tactic| walk_at "wi") => `(tactic| repeat (first | walk_at "w1" | walk_at "w2" | with_reducible refine' s_if ?_ | dsimp only))

open Tx1 Ln
/-! ### the law's own look at a text -/
theorem nil_eqvS (ns : List Str) : PyData.eqv (.list (ns.map PyData.str)) (.list []) = ns.isEmpty := by
  cases ns <;> simp [PyData.eqv, PyData.eqvAll]
abbrev digS : Str := SX.S [48, 49, 50, 51, 52, 53, 54, 55, 56, 57]
theorem dig_eq : (Str.ofString "0123456789") = digS := by decide +kernel
theorem zero_eq : (Str.ofString "0") = SX.S [48] := by decide +kernel
theorem empty_eq : (Str.ofString "") = SX.S [] := by decide +kernel
def pD : V → Bool
  | .str z => !!(Builtin.Str.occurrences digS z 0 digS.length 1).isEmpty
  | _ => true
def isDig (d : Nat) : Bool := decide (d ∈ [48, 49, 50, 51, 52, 53, 54, 55, 56, 57])
theorem pD_chr (d : Nat) : pD (chr1 d) = !isDig d := by
  unfold isDig
  rw [← SX.in_one [48, 49, 50, 51, 52, 53, 54, 55, 56, 57] d]
  rfl
theorem isDig_iff (d : Nat) : isDig d = true ↔ 48 ≤ d ∧ d ≤ 57 := by
  unfold isDig
  simp
  omega
def odds (x : Str) : List Str := ((TL.tl x).filter (fun d => !isDig d)).map fun d => { cps := #[d] }
theorem odds_eq (x : Str) : List.map (fun v : V => v) (List.filter pD ((TL.tl x).map chr1)) = (odds x).map V.str := by
  unfold odds
  rw [List.map_id', List.filter_map, List.map_map]
  have : (pD ∘ chr1) = fun d => !isDig d := funext pD_chr
  rw [this]
  rfl
theorem odds_nil (x : Str) : (odds x).isEmpty = true ↔ PySem.NumText.AllDigits (TL.tl x) := by
  unfold odds PySem.NumText.AllDigits
  rw [List.isEmpty_iff, List.map_eq_nil_iff, List.filter_eq_nil_iff]
  constructor
  · intro h c hc
    have := h c hc
    exact (isDig_iff c).1 (by simpa using this)
  · intro h c hc
    have := (isDig_iff c).2 (h c hc)
    simp [this]
open Classical in
/-- what the law's _law_number says -/
noncomputable def cnV (x : Str) : V := if h : isC 3 x then .int ((Classical.choose h : Nat) : Int) else .non
theorem cnV_nS {m : Nat} (h : m < 1000) : cnV (nS m) = .int m := by
  have hc : isC 3 (nS m) := ⟨m, h, rfl⟩
  unfold cnV
  rw [dif_pos hc]
  have := (Classical.choose_spec hc).2
  rw [← dS_inj this]
theorem cnV_no {x : Str} (h : ¬ isC 3 x) : cnV x = .non := by
  unfold cnV
  rw [dif_neg h]
theorem nS_inj {a b : Nat} (h : nS a = nS b) : a = b := by
  have := dS_inj h
  omega
def bNum : List V → Hp → AK → AXK → Prop := fun vs kn Q _ => ∃ x : Str, vs = [.str x] ∧ Asc x ∧ ∀ k', Ext kn k' → Q (cnV x) k'
theorem mo_num : MonoX bNum := by
  rintro vs kn Q R E F h1 h2 ⟨x, a, b, c⟩
  exact ⟨x, a, b, fun k z => h1 _ _ (c k z)⟩
section
variable {P : Program} {w : World} {K : PySem.W.Frag} {mg : Str → Option Value} {base : Heap}
theorem ok__law_number (T : Tx K mg) : FnOk P w K mg base CX0 1 T.f__law_number T.d__law_number ["word"] (liftX bNum) := by
  refine T.F__law_number.ok sc__law_number (fun vs H Q E h => ?_) (fun cdv A outer s H vs Q E hr h => ?_)
  · obtain ⟨kn, _, _, x, rfl, _⟩ := h
    rfl
  · obtain ⟨kn, ex, nt, x, rfl, ⟨ha, hl⟩, hh⟩ := h
    have h2 : ¬ isC 3 x → ∀ k', Ext kn k' → ∀ n' (H' : Hp), AW.Good (pureC kn H) k' n' H' → Q .non H' := fun z k' e n' => by
      have := hh k' e n'
      rw [cnV_no z] at this
      exact this
    have hk : 0 < 3 := by decide
    refine ⟨_, (pss_cons (ps_if (PW.pt (pw_or (pt_cmpR op_eq (pv 0) pe_str (nomark _)) (pw_or (pt_cmpR op_gt (pe_callB c_lenS (by rfl) T.b_len PySem.boot_len (pa_cons (pv 0) pa_nil)) pe_int (nomark _)) (pw_or1 (pt_cmpR (op_neD hr.units) (pe_lc (own := [("sign", 1)]) (g := gName 1) (by rfl) sc__law_number.nd (pi_str (pv 0)) (blkOk_by (own := [("sign", 1)]) (N := ["word", "sign"]) (sc := defScope s__law_number) (by decide +kernel)) (fun _ _ _ _ _ => pg_name (i := 1) sc__law_number.nd rfl (Or.inl rfl)) (fun _ _ _ _ _ => (pts_one (pt_cmpR op_notInT (pv 1) pe_str (by rfl)))) (fun _ _ _ _ _ => (pv 1))) (pe_lst pa_nil) (nomark _))))))
       (pss_one (ps_ret pe_non))
       pss_nil)
       (pss_one (ps_ret (pe_ifExp (PW.pt (pw_or (pt_cmpR op_eq (pv 0) pe_str (nomark _)) (pw_or1 (pt_cmpR op_ne (pe_itemZ (pv 0) pe_int (fun _ _ => rfl)) pe_str (nomark _))))) (pe_callTy c_intS (by rfl) T.b_int boot_int (pa_cons (pv 0) pa_nil)) pe_non)))), ?_⟩
    refine body_of (pure_start ex nt) ?_
    walk_at "wi"
    refine ⟨fun h0 => ?_, fun h0 => ⟨fun _ => ?_, fun z => absurd z (by decide)⟩⟩
    · have h0 := of_decide_eq_false h0
      have hne : TL.tl x ≠ [] := fun z => h0 (by rw [empty_eq]; exact congrArg V.str (ext_str z))
      walk_at "wi"
      refine r_lenS (by omega) ?_
      walk_at "wi"
      refine ⟨fun hb => ?_, fun hb => ⟨fun _ => ?_, fun z => absurd z (by decide)⟩⟩
      · have hb := of_decide_eq_false hb
        walk_at "wi"
        rw [dig_eq]
        refine w_lcP (i_str ?_)
        walk_at "w"
        refine ⟨(TL.tl x).map chr1, _, fun v => v, pD, gives_str, (by rw [List.length_map, ← lenT]; omega), fun _ _ => trivial, fun v hv k2 ek => ?_, fun D hD => ?_⟩
        · obtain ⟨d, _, rfl⟩ := List.mem_map.1 hv
          walk_at "w"
          refine ⟨rfl, ?_⟩
          walk_at "w"
          refine r_notInT ?_
          walk_at "w"
          · rfl
          · refine ⟨rfl, fun _ => ?_⟩
            walk_at "w"
            all_goals first | exact ⟨rfl, rfl, rfl⟩ | exact ⟨rfl, rfl⟩ | rfl
        · rw [odds_eq]
          have D1 : (upd kn D (.lst ((odds x).map V.str))) D = some (.lst ((odds x).map V.str)) := upd_same
          have e1 : Ext kn (upd kn D (.lst ((odds x).map V.str))) := ext_new hD
          generalize upd kn D (.lst ((odds x).map V.str)) = kn1 at D1 e1 ⊢
          walk_at "wi"
          refine ⟨by decide, fun l hl2 => ?_⟩
          have ok : ∀ s ∈ odds x, PyData.strOk s = true := fun s hs => by
            unfold odds at hs
            obtain ⟨d, hd, rfl⟩ := List.mem_map.1 hs
            have := ha d (List.mem_filter.1 hd).1
            unfold PyData.strOk
            simp
            omega
          refine r_ne_d (.lst (sql (know hl2 D1)) (dp_strs (odds x))) (.lst (sql upd_same) .nil) (shaped_strs (odds x) ok) rfl ?_
          walk_at "wi"
          rw [nil_eqvS]
          have e2 := ext_tr e1 (ext_new (o := .lst []) hl2)
          generalize upd kn1 l (.lst []) = kn2 at e2 ⊢
          refine ⟨fun hz => ?_, fun hz => ?_⟩
          · have nd : ¬ PySem.NumText.AllDigits (TL.tl x) := fun z => by
              rw [(odds_nil x).2 z] at hz
              exact absurd hz (by decide)
            walk_at "wi"
            exact h2 (fun z => nd (cnt_no hk z).1) kn2 e2 0
          · have ad : PySem.NumText.AllDigits (TL.tl x) := (odds_nil x).1 (by simpa using hz)
            walk_at "wi"
            rw [zero_eq]
            have hlk : x.length ≤ 3 := by omega
            have int3 : isC 3 x → W (pureC kn H) (tCB rIntS (tCons (tVar 0) tNil) (L2.start [Str.ofString "word", Str.ofString "sign"] [V.str x])) kn2 0 fun v kn_1 n => ∀ (H' : Hp), AW.Good (pureC kn H) kn_1 n H' → Q v H' := fun hc => by
              obtain ⟨m, hm, ex⟩ := id hc
              have hm : m < 1000 := hm
              have q := hh kn2 e2 0
              rw [show x = nS m from ex, cnV_nS hm] at q
              walk_at "w"
              refine r_intS (i := (m : Int)) ?_ (by omega) q
              rw [ex]
              exact int_dS (by omega)
            refine ⟨fun hq => ?_, fun hq => ⟨fun _ => ?_, fun z => absurd z (by decide)⟩⟩
            · have hq := of_decide_eq_false hq
              obtain ⟨d, r, hdr⟩ : ∃ d r, TL.tl x = d :: r := by
                cases hx : TL.tl x with
                | nil => exact absurd hx hne
                | cons d r => exact ⟨d, r, rfl⟩
              walk_at "w"
              refine r_ixZ (d := d) (by decide) (by decide) ?_ ?_ ?_
              · rw [lenT, hdr]; simp only [List.length_cons]; omega
              · have : (TL.tl x)[0]? = some d := by rw [hdr]; rfl
                simpa [TL.tl] using this
              · walk_at "w"
                by_cases hd : d = 48
                · have ev : (!decide (V.str { cps := #[d] } = V.str (SX.S [48]))) = false := by rw [hd]; decide
                  rw [ev]
                  refine ⟨fun z => absurd z (by decide), fun _ => ?_⟩
                  walk_at "w"
                  refine h2 (fun z => ?_) kn2 e2 0
                  rcases (cnt_no hk z).2.2.2 with c | c
                  · exact hq (congrArg V.str (ext_str c))
                  · rw [hdr, hd] at c
                    exact c rfl
                · have ev : (!decide (V.str { cps := #[d] } = V.str (SX.S [48]))) = true := by
                    have : ¬ (V.str { cps := #[d] } = V.str (SX.S [48])) := fun z => hd (by
                      have := congrArg TL.tl (V.str.inj z)
                      exact (List.cons.inj this).1)
                    rw [decide_eq_false this]
                    rfl
                  rw [ev]
                  refine ⟨fun _ => int3 (cnt_yes ad hne hlk (.inr ?_)), fun z => absurd z (by decide)⟩
                  rw [hdr]
                  exact fun z => hd (Option.some.inj z)
            · have hq := congrArg TL.tl (V.str.inj (of_decide_eq_true hq))
              exact int3 (cnt_yes ad hne hlk (.inl hq))
      · walk_at "wi"
        refine h2 (fun z => ?_) kn (fun _ _ z => z) 0
        have := (cnt_no hk z).2.2.1
        have := of_decide_eq_true hb
        omega
    · walk_at "wi"
      refine h2 (fun z => (cnt_no hk z).2.1 ?_) kn (fun _ _ z => z) 0
      have := V.str.inj (of_decide_eq_true h0)
      rw [this, empty_eq]
end

end NN

namespace NN
open PySem PySem.Spec PyProof.Rows L2 LamX AW ClX
-- a stay that is known
local macro_rules | `(tactic| walk_at "st") => `(tactic| first
  | assumption
  | ((with_reducible refine' StayAt.ext ?h1 ?h2); (case h1 => assumption); (case h2 => walk_at "st"))
  | ((with_reducible refine' StayAt.ext ?h1 ?h2); (case h1 => exact ext_new (by assumption)); (case h2 => walk_at "st")))
local macro_rules | `(tactic| walk_at "w2") => `(tactic| first
  | ((with_reducible refine' w_first ?h1 ?h2 ?h3 ?h4 ?_); (case h3 => rfl); (case h4 => walk_at "st"); (case h1 => assumption); (case h2 => assumption))
  | ((with_reducible refine' w_after ?h1 ?h2 ?h3 ?h4 ?_); (case h3 => rfl); (case h4 => walk_at "st"); (case h1 => assumption); (case h2 => assumption))
  | ((with_reducible refine' w_nights ?h1 ?h2 ?h3 ?h4 ?_); (case h3 => rfl); (case h4 => walk_at "st"); (case h1 => assumption); (case h2 => assumption)))
local macro_rules | `(tactic| walk_at "w") => `(tactic| repeat (first | walk_at "w1" | walk_at "w2" | dsimp only))
local macro_rules | `(tactic| walk_at "wi") => `(tactic| repeat (first | walk_at "w1" | walk_at "w2" | with_reducible refine' s_if ?_ | dsimp only))

open Tx1 Ln
section
variable {c : Cw} {kn : Hp} {n : Nat} {σ : L2.St} {K : PySem.W.Frag}
/-- a loop over zip of two lists -/
theorem s_forZ {D : AE} {ta : TA} {gt : TG} {tb : TS}
    (h : W c (ta σ) kn n fun vs kn1 n1 => ∃ (a b : Addr) (xs ys : List V) (Pv : Nat → L2.St → Hp → Nat → Prop), vs = [.ref a, .ref b] ∧ kn1 a = some (.lst xs) ∧ kn1 b = some (.lst ys) ∧ ys.length ≤ xs.length ∧ Pv 0 σ kn1 n1 ∧
      (∀ i σ' kn' n', Pv i σ' kn' n' → kn' a = some (.lst xs) ∧ kn' b = some (.lst ys)) ∧
      (∀ i x y σ' kn' n' T, xs[i]? = some x → ys[i]? = some y → Pv i σ' kn' n' → kn' T = none → WG c gt (.ref T) σ' (upd kn' T (.tup [x, y])) n' fun σ2 kn2 n2 => WS c tb { D with nx := Pv (i + 1), ct := Pv (i + 1), bk := D.nx } σ2 kn2 n2) ∧
      ∀ σ' kn' n', Pv ys.length σ' kn' n' → D.nx σ' kn' n') : WS c (tFor (iZip K ta) gt tb) D σ kn n := by
  intro H g D' f
  refine h H g _ fun vs kn1 n1 H1 hJ g1 => ?_
  obtain ⟨a, b, xs, ys, Pv, e, ha, hb, hl, h0, hk, hs, hd⟩ := hJ
  refine ⟨a, b, xs, ys, e, sql (g1.ex _ _ ha), sql (g1.ex _ _ hb), ?_⟩
  refine ⟨fun i m σ' H' => m = ys.length - i ∧ i ≤ ys.length ∧ ∃ kn' n', Pv i σ' kn' n' ∧ Good c kn' n' H', ⟨_, rfl, Nat.zero_le _, kn1, n1, h0, g1⟩, ?_⟩
  rintro i m σ' H' ⟨rfl, hi, kn', n', p, g'⟩
  obtain ⟨ka, kb⟩ := hk _ _ _ _ p
  by_cases hlt : i < ys.length
  · have hlx : i < xs.length := by omega
    refine .inr ⟨⟨xs, ys, xs[i], ys[i], sql (g'.ex _ _ ka), sql (g'.ex _ _ kb), List.getElem?_eq_getElem hlx, List.getElem?_eq_getElem hlt⟩, fun σ2 H2 => ∃ kn2 n2, Pv (i + 1) σ2 kn2 n2 ∧ Good c kn2 n2 H2, fun σ2 H2 ⟨kn2, n2, p2, g2⟩ => ⟨ys.length - (i + 1), by omega, rfl, hlt, kn2, n2, p2, g2⟩, fun x H2 y => ?_⟩
    obtain ⟨T, x', y', rfl, hT, rfl, h1, h2⟩ := y
    refine hs i x' y' σ' kn' n' T (h1 xs (sql (g'.ex _ _ ka))) (h2 ys (sql (g'.ex _ _ kb))) p (g'.free hT) _ (g'.new hT) _ fun σ3 kn3 n3 H3 h3 g3 => h3 H3 g3 _ ⟨fun σ4 kn4 n4 H4 h4 g4 => ⟨kn4, n4, h4, g4⟩, f.rt, fun σ4 kn4 n4 H4 h4 g4 => f.nx _ _ _ _ h4 g4, fun σ4 kn4 n4 H4 h4 g4 => ⟨kn4, n4, h4, g4⟩⟩
  · have e : i = ys.length := Nat.le_antisymm hi (Nat.le_of_not_lt hlt)
    exact .inl ⟨⟨xs, ys, sql (g'.ex _ _ ka), sql (g'.ex _ _ kb), .inr (Nat.le_of_not_lt hlt)⟩, f.nx _ _ _ _ (hd σ' kn' n' (e ▸ p)) g'⟩
end
def RisT (ws : List Str) (ns : List Nat) : Prop := ws = ns.map nS ∧ (∀ m ∈ ns, m < 1000) ∧ ns.Pairwise (· < ·)
theorem nS_maps : ∀ {a b : List Nat}, a.map nS = b.map nS → a = b := fun {a b} h => (List.map_inj_right (f := nS) (fun x y e => nS_inj e)).1 h
theorem RisT.uniq {ws : List Str} {a b : List Nat} (h : RisT ws a) (g : RisT ws b) : a = b := nS_maps (h.1.symm.trans g.1)
theorem inV_non : ∀ ws : List Str, inV .non (ws.map cnV) = true ↔ ∃ x ∈ ws, ¬ isC 3 x
  | [] => ⟨fun h => (by cases h), fun ⟨x, hx, _⟩ => (by cases hx)⟩
  | x :: ws => by
    have ih := inV_non ws
    unfold inV at ih ⊢
    rw [List.map_cons, List.any_cons, Bool.or_eq_true, ih]
    by_cases hc : isC 3 x
    · have : cnV x = .int ((Classical.choose hc : Nat) : Int) := by unfold cnV; rw [dif_pos hc]
      rw [this]
      constructor
      · rintro (z | ⟨y, hy, hn⟩)
        · cases z
        · exact ⟨y, .tail _ hy, hn⟩
      · rintro ⟨y, hy, hn⟩
        rcases List.mem_cons.1 hy with rfl | hy
        · exact absurd hc hn
        · exact .inr ⟨y, hy, hn⟩
    · rw [cnV_no hc]
      exact ⟨fun _ => ⟨x, .head _, hc⟩, fun _ => .inl rfl⟩
theorem flat_cn (ws : List Str) : (ws.map cnV).all flatV = true := by
  rw [List.all_map]
  refine List.all_eq_true.2 fun x _ => ?_
  show flatV (cnV x) = true
  unfold cnV
  split <;> rfl
theorem all_cn : ∀ {ws : List Str}, (∀ x ∈ ws, isC 3 x) → ∃ ns : List Nat, ws = ns.map nS ∧ (∀ m ∈ ns, m < 1000) ∧ ws.map cnV = natV ns
  | [], _ => ⟨[], rfl, fun m h => (by cases h), rfl⟩
  | x :: ws, h => by
    obtain ⟨m, hm, ex⟩ := h x (.head _)
    have hm : m < 1000 := hm
    obtain ⟨ns, e1, e2, e3⟩ := all_cn (fun y hy => h y (.tail _ hy))
    refine ⟨m :: ns, by rw [e1, ex]; rfl, fun j hj => ?_, ?_⟩
    · rcases List.mem_cons.1 hj with rfl | hj
      · exact hm
      · exact e2 j hj
    · rw [List.map_cons, e3, ex, cnV_nS hm]
      rfl
theorem isC_nS {m : Nat} (h : m < 1000) : isC 3 (nS m) := ⟨m, h, rfl⟩
theorem rising_of {ns : List Nat} (h : ∀ (j a b : Nat), ns[j]? = some a → ns[j + 1]? = some b → a < b) : ns.Pairwise (· < ·) := by
  rw [List.pairwise_iff_getElem]
  intro i j hi hj hij
  obtain ⟨d, rfl⟩ : ∃ d, j = i + 1 + d := ⟨j - (i + 1), by omega⟩
  clear hij
  induction d with
  | zero => exact h i _ _ (List.getElem?_eq_getElem hi) (List.getElem?_eq_getElem hj)
  | succ d ih => exact Nat.lt_trans (ih (by omega)) (h (i + 1 + d) _ _ (List.getElem?_eq_getElem (by omega)) (List.getElem?_eq_getElem hj))
def bRis : List V → Hp → AK → AXK → Prop := fun vs kn Q _ => ∃ (p : Addr) (ws : List Str), vs = [.ref p] ∧ kn p = some (.lst (strV ws)) ∧ ws.length ≤ 1000 ∧ (∀ x ∈ ws, Asc x) ∧
  (∀ ns, RisT ws ns → ∀ D k', Ext kn k' → k' D = some (.lst (natV ns)) → Q (.ref D) k') ∧ ((¬ ∃ ns, RisT ws ns) → ∀ k', Ext kn k' → Q .non k')
theorem mo_ris : MonoX bRis := by
  rintro vs kn Q R E F h1 h2 ⟨p, ws, a, b, c, d, e, f⟩
  exact ⟨p, ws, a, b, c, d, fun ns r D k z u => h1 _ _ (e ns r D k z u), fun no k z => h1 _ _ (f no k z)⟩
section
variable {P : Program} {w : World} {K : PySem.W.Frag} {mg : Str → Option Value} {base : Heap}
theorem ok__law_rising (T : Tx K mg) : FnOk P w K mg base CX0 2 T.f__law_rising T.d__law_rising ["words"] (liftX bRis) := by
  refine T.F__law_rising.ok sc__law_rising (fun vs H Q E h => ?_) (fun cdv A outer s H vs Q E hr h => ?_)
  · obtain ⟨kn, _, _, p, ws, rfl, _⟩ := h
    rfl
  · obtain ⟨kn, ex, nt, p, ws, rfl, hp, hl, ha, hy, hn⟩ := h
    refine ⟨_, (pss_cons (ps_setLc (i := 1) (own := [("word", 2)]) (g := gName 2) (by rfl) sc__law_rising.nd rfl rfl (sw_true rfl rfl rfl (by decide +kernel)) (pi_list (pv 0)) (blkOk_by (own := [("word", 2)]) (N := ["words", "found", "word", "one", "other"]) (sc := defScope s__law_rising) (by decide +kernel)) (fun _ _ _ _ _ => pg_name (i := 2) sc__law_rising.nd rfl (Or.inl rfl)) (fun _ _ _ _ _ => pts_nil) (fun _ _ _ _ _ => (pe_call (ok__law_number T) (hr.mono (by decide)) (by rfl) T.g__law_number T.F__law_number.kp T.bd__law_number .nil pass0 (pa_cons (pv 2) pa_nil))))
       (pss_cons (ps_if (pt_cmpR (show OpR _ _ (rInQ K false) from c_inQ) pe_non (pv 1) (by rfl))
       (pss_one (ps_ret pe_non))
       pss_nil)
       (pss_cons (ps_for PassesOwn.never rfl (pi_zip (by rfl) T.b_zip (pa_cons (pv 1) (pa_cons (pe_slice (show SlR _ (rSlL K) from sl_list) (pv 1) (po_some pe_int) po_none) pa_nil))) (pg_tup (by rfl) (pgs_cons (pg_name (i := 3) sc__law_rising.nd rfl (by first | exact Or.inl rfl | exact Or.inr rfl)) (pgs_cons (pg_name (i := 4) sc__law_rising.nd rfl (by first | exact Or.inl rfl | exact Or.inr rfl)) pgs_nil)))
       (pss_one (ps_if (pt_cmpR op_ge (pv 3) (pv 4) (nomark _))
       (pss_one (ps_ret pe_non))
       pss_nil)))
       (pss_one (ps_ret (pv 1)))))), ?_⟩
    refine body_of (pure_start ex nt) ?_
    refine s_seq (s_set ?_)
    refine w_lcN (fun i v _ => ∀ x, ws[i]? = some x → v = cnV x) (fun _ _ _ _ _ h => h) (fun _ _ _ _ _ _ _ h => h) (i_list (w_var rfl ⟨p, _, rfl, hp, ?_⟩))
    refine ⟨_, _, gives_lst, by rw [List.length_map]; omega, fun k e => e _ _ hp, fun i x hx k ek => ?_, fun D k1 ys e1 n1 h1 hl1 hr1 => ?_⟩
    · rw [List.getElem?_map] at hx
      obtain ⟨z, hz, rfl⟩ := Option.map_eq_some_iff.1 hx
      refine g_name ⟨rfl, rfl, rfl, ?_⟩
      exact w_call (EA := fun _ _ _ _ => False) mo_num err_no (w_cons (w_var rfl (w_nil ⟨z, rfl, ha z (List.mem_of_getElem? hz), fun k' e => ⟨rfl, e, fun x hx => by rw [hz] at hx; rw [Option.some.inj hx]⟩⟩)))
    · have ey : ys = ws.map cnV := by
        apply List.ext_getElem?
        intro i
        rcases Nat.lt_or_ge i ys.length with hi | hi
        · have hw : i < ws.length := by rw [hl1, List.length_map] at hi; exact hi
          rw [List.getElem?_map, List.getElem?_eq_getElem hw, List.getElem?_eq_getElem hi]
          exact congrArg some (hr1 i _ (List.getElem?_eq_getElem hi) _ (List.getElem?_eq_getElem hw))
        · rw [List.getElem?_eq_none hi, List.getElem?_eq_none (by rw [List.length_map]; rw [hl1, List.length_map] at hi; exact hi)]
      subst ey
      walk_at "wi"
      refine r_inQ (.inl h1) rfl (flat_cn _) ?_
      walk_at "wi"
      refine ⟨fun hb => ?_, fun hb => ?_⟩
      · have := (inV_non ws).1 (by simpa using hb)
        walk_at "wi"
        refine hn (fun ⟨ns, r⟩ => ?_) _ e1 0
        obtain ⟨x, hx, hc⟩ := this
        rw [r.1] at hx
        obtain ⟨m, hm, rfl⟩ := List.mem_map.1 hx
        exact hc (isC_nS (r.2.1 m hm))
      · have hall : ∀ x ∈ ws, isC 3 x := fun x hx => Classical.byContradiction fun z => by
          have := (inV_non ws).2 ⟨x, hx, z⟩
          rw [this] at hb
          exact absurd hb (by decide)
        obtain ⟨ns, f1, f2, f3⟩ := all_cn hall
        rw [f3] at h1
        have hln : ns.length = ws.length := by rw [f1, List.length_map]
        walk_at "wi"
        refine s_forZ ?_
        walk_at "w"
        refine r_slL h1 fun L hL => ?_
        have c1 : cutV (natV ns) (some 1) none = natV (ns.drop 1) := (cut_lo _ 1).trans (List.map_drop ..).symm
        rw [c1]
        have L2 : (upd k1 L (.lst (natV (ns.drop 1)))) L = some (.lst (natV (ns.drop 1))) := upd_same
        have D2 := know (o := .lst (natV (ns.drop 1))) hL h1
        have e2 := ext_tr e1 (ext_new (o := .lst (natV (ns.drop 1))) hL)
        generalize upd k1 L (.lst (natV (ns.drop 1))) = k2 at L2 D2 e2 ⊢
        walk_at "w"
        refine ⟨D, L, _, _, fun i σ' kn' n' => n' = 0 ∧ Ext k2 kn' ∧ (∃ x2 x3 x4, σ' = [some (.ref p), some (.ref D), x2, x3, x4]) ∧ ∀ (j a b : Nat), j < i → ns[j]? = some a → ns[j + 1]? = some b → a < b, rfl, D2, L2, by simp, ⟨rfl, ext_rf, ⟨_, _, _, rfl⟩, fun j a b h => absurd h (Nat.not_lt_zero _)⟩, fun i σ' kn' n' ⟨_, e, _⟩ => ⟨e _ _ D2, e _ _ L2⟩, ?_, ?_⟩
        · rintro i x y σ' kn' n' T hx hyy ⟨rfl, e, ⟨x2, x3, x4, rfl⟩, hj⟩ hT
          rw [List.getElem?_map] at hx hyy
          obtain ⟨a, hax, rfl⟩ := Option.map_eq_some_iff.1 hx
          obtain ⟨b, hbx, rfl⟩ := Option.map_eq_some_iff.1 hyy
          rw [List.getElem?_drop, Nat.add_comm] at hbx
          refine g_tup upd_same rfl ?_
          walk_at "w"
          show WS _ _ _ [some (.ref p), some (.ref D), x2, some (.int a), some (.int b)] _ _
          walk_at "wi"
          refine ⟨fun hz => ?_, fun hz => ?_⟩
          · have hz := of_decide_eq_true hz
            walk_at "wi"
            refine hn (fun ⟨ns', r⟩ => ?_) _ (ext_tr e2 (ext_tr e (ext_new hT))) 0
            obtain rfl := nS_maps (r.1.symm.trans f1)
            have := (List.pairwise_iff_getElem.1 r.2.2) i (i + 1) (List.getElem?_eq_some_iff.1 hax).1 (List.getElem?_eq_some_iff.1 hbx).1 (Nat.lt_succ_self _)
            rw [(List.getElem?_eq_some_iff.1 hax).2, (List.getElem?_eq_some_iff.1 hbx).2] at this
            omega
          · have hz := of_decide_eq_false hz
            walk_at "wi"
            refine ⟨rfl, ext_tr e (ext_new hT), ⟨_, _, _, rfl⟩, fun j a' b' hlt h3 h4 => ?_⟩
            rcases Nat.lt_or_eq_of_le (Nat.le_of_lt_succ hlt) with z | z
            · exact hj j a' b' z h3 h4
            · subst z
              rw [hax] at h3
              rw [hbx] at h4
              cases h3; cases h4
              omega
        · rintro σ' kn' n' ⟨rfl, e, ⟨x2, x3, x4, rfl⟩, hj⟩
          refine s_ret (w_var rfl ?_)
          refine hy ns ⟨f1, f2, rising_of fun j a b h3 h4 => hj j a b ?_ h3 h4⟩ D _ (ext_tr e2 e) (e _ _ D2) 0
          have := (List.getElem?_eq_some_iff.1 h4).1
          rw [List.length_map, List.length_drop]
          omega
end

end NN

namespace NN
open PySem PySem.Spec PyProof.Rows L2 LamX AW ClX
-- a stay that is known
local macro_rules | `(tactic| walk_at "st") => `(tactic| first
  | assumption
  | ((with_reducible refine' StayAt.ext ?h1 ?h2); (case h1 => assumption); (case h2 => walk_at "st"))
  | ((with_reducible refine' StayAt.ext ?h1 ?h2); (case h1 => exact ext_new (by assumption)); (case h2 => walk_at "st")))
local macro_rules | `(tactic| walk_at "w2") => `(tactic| first
  | ((with_reducible refine' w_first ?h1 ?h2 ?h3 ?h4 ?_); (case h3 => rfl); (case h4 => walk_at "st"); (case h1 => assumption); (case h2 => assumption))
  | ((with_reducible refine' w_after ?h1 ?h2 ?h3 ?h4 ?_); (case h3 => rfl); (case h4 => walk_at "st"); (case h1 => assumption); (case h2 => assumption))
  | ((with_reducible refine' w_nights ?h1 ?h2 ?h3 ?h4 ?_); (case h3 => rfl); (case h4 => walk_at "st"); (case h1 => assumption); (case h2 => assumption)))
local macro_rules | `(tactic| walk_at "w") => `(tactic| repeat (first | walk_at "w1" | walk_at "w2" | dsimp only))
local macro_rules | `(tactic| walk_at "wi") => `(tactic| repeat (first | walk_at "w1" | walk_at "w2" | with_reducible refine' s_if ?_ | dsimp only))

open Tx1 Ln
theorem per_rot {a b : List Bool} {s h k : Nat} (ha : a.length = s) (hb : b.length = s) (hs : 0 < s) (hd : s % k = 0) (r : ∀ i, i < s → ix b i = ix a ((h + i) % s)) (p : Per a k) : Per b k := by
  intro i hi
  rw [hb] at hi
  obtain ⟨m, hm⟩ := Nat.dvd_of_mod_eq_zero hd
  have hk : 0 < k := by
    rcases Nat.eq_zero_or_pos k with z | z
    · rw [z, Nat.zero_mul] at hm; omega
    · exact z
  have h1 : i % k < s := Nat.lt_of_le_of_lt (Nat.mod_le _ _) hi
  have l1 : (h + i) % s < a.length := by rw [ha]; exact Nat.mod_lt _ hs
  have l2 : (h + i % k) % s < a.length := by rw [ha]; exact Nat.mod_lt _ hs
  have md : k ∣ s := ⟨m, hm⟩
  rw [r i hi, r _ h1, p _ l1, p _ l2, Nat.mod_mod_of_dvd _ md, Nat.mod_mod_of_dvd _ md]
  congr 1
  rw [Nat.add_mod, Nat.add_mod h (i % k), Nat.mod_mod]
theorem leastP_is {t : List Bool} (h : 0 < t.length) : leastP t = t.length ↔ ∀ k, 1 ≤ k → k < t.length → t.length % k = 0 → ¬ Per t k := by
  constructor
  · intro e k h1 h2 h3 p
    exact leastP_min h1 (by omega) h3 p
  · intro f
    rcases Nat.lt_or_eq_of_le (leastP_le t) with z | z
    · obtain ⟨q1, q2⟩ := leastP_per h
      exact absurd q2 (f _ (leastP_pos h) z q1)
    · exact z
theorem mod_nat (a b s : Nat) : ((a : Int) + (b : Int)) % (s : Int) = (((a + b) % s : Nat) : Int) := by
  rw [Int.natCast_emod, Int.natCast_add]
/-- the law's row: what comes round, read from head on -/
def rowOf (h s : Nat) (ys : List Nat) : List Bool := (List.range s).map fun k => decide ((h + k) % s ∈ ys)
theorem row_len (h s : Nat) (ys : List Nat) : (rowOf h s ys).length = s := by simp [rowOf]
theorem ix_row {h s i : Nat} {ys : List Nat} (hi : i < s) : ix (rowOf h s ys) i = decide ((h + i) % s ∈ ys) := by
  unfold ix rowOf
  rw [List.getD_eq_getElem?_getD, List.getElem?_map, List.getElem?_range hi]
  rfl
theorem row_least {h s : Nat} {ys : List Nat} (hs : 0 < s) : leastP (rowOf h s ys) = s ↔ leastP (maskOf s ys) = s := by
  have l1 := row_len h s ys
  have l2 := mask_len s ys
  have A : ∀ i, i < s → ix (rowOf h s ys) i = ix (maskOf s ys) ((h + i) % s) := fun i hi => by
    rw [ix_row hi, ix_mask (Nat.mod_lt _ hs)]
  have B : ∀ i, i < s → ix (maskOf s ys) i = ix (rowOf h s ys) ((s - h % s + i) % s) := fun i hi => by
    rw [A _ (Nat.mod_lt _ hs)]
    congr 1
    have hm := Nat.mod_lt h hs
    have hq := Nat.div_add_mod h s
    have : (h + (s - h % s + i) % s) % s = (h + (s - h % s + i)) % s := by
      rw [Nat.add_mod, Nat.mod_mod, ← Nat.add_mod]
    rw [this, show h + (s - h % s + i) = i + s * (h / s + 1) by rw [Nat.mul_add]; omega, Nat.add_mul_mod_self_left, Nat.mod_eq_of_lt hi]
  have e1 := leastP_is (t := rowOf h s ys) (by omega)
  have e2 := leastP_is (t := maskOf s ys) (by omega)
  rw [l1] at e1
  rw [l2] at e2
  rw [e1, e2]
  exact ⟨fun f k a b c p => f k a b c (per_rot l2 l1 hs c A p), fun f k a b c p => f k a b c (per_rot l1 l2 hs c B p)⟩
theorem inV_nat (x : Nat) : ∀ ws : List Nat, inV (.int (x : Int)) (natV ws) = decide (x ∈ ws)
  | [] => rfl
  | w :: ws => by
    have ih := inV_nat x ws
    unfold inV natV at ih ⊢
    rw [List.map_cons, List.any_cons, ih]
    show (((w : Nat) : Int) == (x : Int) || decide (x ∈ ws)) = _
    by_cases e : w = x
    · subst e
      simp
    · have e2 : ¬ x = w := fun z => e z.symm
      have e3 : ¬ ((w : Nat) : Int) = (x : Int) := by omega
      rw [beq_eq_false_iff_ne.2 e3, Bool.false_or]
      exact decide_eq_decide.2 ⟨fun h => .tail _ h, fun h => (List.mem_cons.1 h).resolve_left e2⟩
theorem flat_nats (ws : List Nat) : (natV ws).all flatV = true := by
  unfold natV
  rw [List.all_map]
  exact List.all_eq_true.2 fun _ _ => rfl
def fRow (h s : Nat) (ys : List Nat) : V → V
  | .int k => .bl (decide ((h + k.toNat) % s ∈ ys))
  | v => v
def leastOK (h s : Nat) (xs ys : List Nat) : Bool := decide (leastP (maskOf s ys) = s) && (decide (h = 0) || (decide (h - 1 ∈ xs) != decide ((h - 1) % s ∈ ys)))
def bIL : List V → Hp → AK → AXK → Prop := fun vs kn Q _ => ∃ (h s : Nat) (lo ov : Addr) (xs ys : List Nat), vs = [.int h, .ref lo, .int s, .ref ov] ∧ kn lo = some (.lst (natV xs)) ∧ kn ov = some (.lst (natV ys)) ∧ 1 ≤ s ∧ h + s ≤ 400 ∧ xs.length ≤ 1000 ∧ ys.length ≤ 1000 ∧ ∀ k', Ext kn k' → Q (.bl (leastOK h s xs ys)) k'
theorem mo_IL : MonoX bIL := by
  rintro vs kn Q R E F h1 h2 ⟨h, s, lo, ov, xs, ys, a, b, c, d, e, f, g, i⟩
  exact ⟨h, s, lo, ov, xs, ys, a, b, c, d, e, f, g, fun k z => h1 _ _ (i k z)⟩
section
variable {P : Program} {w : World} {K : PySem.W.Frag} {mg : Str → Option Value} {base : Heap}
theorem ok__law_is_least (T : Tx K mg) : FnOk P w K mg base CX0 1 T.f__law_is_least T.d__law_is_least ["head", "low", "size", "over"] (liftX bIL) := by
  refine T.F__law_is_least.ok sc__law_is_least (fun vs H Q E h => ?_) (fun cdv A outer s H vs Q E hr h => ?_)
  · obtain ⟨kn, _, _, h, s, lo, ov, xs, ys, rfl, _⟩ := h
    rfl
  · obtain ⟨kn, ex, nt, hd, sz, lo, ov, xs, ys, rfl, hlo, hov, s1, hs, lx, ly, h⟩ := h
    refine ⟨_, (pss_cons (ps_setLc (i := 4) (own := [("k", 5)]) (g := gName 5) (by rfl) sc__law_is_least.nd rfl rfl (sw_true rfl rfl rfl (by decide +kernel)) (pi_range1 (by rfl) T.b_range (pa_cons (pv 2) pa_nil)) (blkOk_by (own := [("k", 5)]) (N := ["head", "low", "size", "over", "row", "k", "less"]) (sc := defScope s__law_is_least) (by decide +kernel)) (fun _ _ _ _ _ => pg_name (i := 5) sc__law_is_least.nd rfl (Or.inl rfl)) (fun _ _ _ _ _ => pts_nil) (fun _ _ _ _ _ => (pe_cmpR (show OpR _ _ (rInQ K false) from c_inQ) (pe_op op_mod (pe_callTy c_int (by rfl) T.b_int boot_int (pa_cons (pe_op op_add (pv 0) (pv 5)) pa_nil)) (pv 2)) (pv 3) (by rfl))))
       (pss_cons (ps_for PassesOwn.never rfl (pi_range2 (by rfl) T.b_range (pa_cons pe_int (pa_cons (pv 2) pa_nil))) (pg_name (i := 6) sc__law_is_least.nd rfl (by first | exact Or.inl rfl | exact Or.inr rfl))
       (pss_one (ps_if (PW.pt (pw_and (pt_cmpR op_eq (pe_op op_mod (pe_callTy c_int (by rfl) T.b_int boot_int (pa_cons (pv 2) pa_nil)) (pv 6)) pe_int (nomark _)) (pw_and1 (pt_cmpR (show OpR _ _ (rEqD K) from op_eqD hr.units) (pe_op op_cat (pe_slice (show SlR _ (rSlL K) from sl_list) (pv 4) (po_some (pv 6)) po_none) (pe_slice (show SlR _ (rSlL K) from sl_list) (pv 4) po_none (po_some (pv 6)))) (pv 4) (nomark _)))))
       (pss_one (ps_ret pe_bl))
       pss_nil)))
       (pss_one (ps_ret (pe_or (pe_cmpR op_eq (pv 0) pe_int (nomark _)) (pe_one (pe_cmpR op_ne (pe_cmpR (show OpR _ _ (rInQ K false) from c_inQ) (pe_op op_sub (pv 0) pe_int) (pv 1) (by rfl)) (pe_cmpR (show OpR _ _ (rInQ K false) from c_inQ) (pe_op op_mod (pe_callTy c_int (by rfl) T.b_int boot_int (pa_cons (pe_op op_sub (pv 0) pe_int) pa_nil)) (pv 2)) (pv 3) (by rfl)) (nomark _)))))))), ?_⟩
    refine body_of (pure_start ex nt) ?_
    refine s_seq (s_set ?_)
    refine w_lcP (i_rng1 ?_)
    walk_at "w"
    refine ⟨by omega, by omega, ?_⟩
    rw [Int.toNat_natCast]
    refine ⟨_, (fun _ => True), fRow hd sz ys, fun _ => true, gives_rng, by rw [List.length_map, List.length_range]; omega, fun _ _ => trivial, fun x hx k ek => ?_, fun D hD => ?_⟩
    · obtain ⟨m, hm, rfl⟩ := List.mem_map.1 hx
      have hm := List.mem_range.1 hm
      rw [Int.zero_add]
      refine g_name ⟨rfl, rfl, rfl, w_yesT ⟨rfl, rfl, rfl, fun _ => ?_⟩⟩
      walk_at "w"
      refine r_I (by omega) ?_
      walk_at "w"
      rw [show ((hd : Int) + (m : Int)) % (sz : Int) = (((hd + m) % sz : Nat) : Int) from (mod_nat hd m sz)]
      refine r_inQ (.inl (ek _ _ hov)) rfl (flat_nats _) ?_
      rw [inV_nat]
      exact ⟨rfl, rfl, rfl⟩
    · have er : List.map (fRow hd sz ys) (List.filter (fun _ => true) ((List.range sz).map fun i => V.int (0 + ((i : Nat) : Int)))) = blV (rowOf hd sz ys) := by
        rw [List.filter_eq_self.2 (fun _ _ => rfl)]
        unfold rowOf
        rw [List.map_map]
        show _ = List.map V.bl (List.map _ _)
        rw [List.map_map]
        refine List.map_congr_left fun m hm => ?_
        show fRow hd sz ys (V.int (0 + ((m : Nat) : Int))) = _
        rw [Int.zero_add]
        rfl
      rw [er]
      have rl := row_len hd sz ys
      have e1 : Ext kn (upd kn D (.lst (blV (rowOf hd sz ys)))) := ext_new hD
      have D1 : (upd kn D (.lst (blV (rowOf hd sz ys)))) D = some (.lst (blV (rowOf hd sz ys))) := upd_same
      generalize upd kn D (.lst (blV (rowOf hd sz ys))) = k1 at e1 D1 ⊢
      obtain ⟨t, ht⟩ : ∃ t, rowOf hd sz ys = t := ⟨_, rfl⟩
      have hl : leastP t = sz ↔ leastP (maskOf sz ys) = sz := by rw [← ht]; exact row_least s1
      rw [ht] at rl D1
      have hsh : t.length ≤ 400 := by omega
      walk_at "wi"
      refine s_forJ (i_rng2 ?_)
      walk_at "w"
      refine ⟨1, t.length, by rw [rl], ⟨by decide, by decide, by omega, by omega⟩, ?_⟩
      have hm : ((t.length : Int) - 1).toNat = t.length - 1 := by omega
      rw [hm]
      refine ⟨_, (fun _ => True), fun j σ' k m => m = 0 ∧ (∃ y5 y6, σ' = [some (.int hd), some (.ref lo), some (.int sz), some (.ref ov), some (.ref D), y5, y6]) ∧ Ext k1 k ∧ ∀ q, q ≤ j → isP t q = false, gives_rng, ⟨rfl, ⟨_, _, rfl⟩, ext_rf, fun q hq => ?_⟩, fun _ _ _ _ _ => trivial, ?_, ?_⟩
      · have : q = 0 := by omega
        subst this
        simp [isP]
      · rintro j x σ' k m hx ⟨rfl, ⟨y5, y6, rfl⟩, ek, hp⟩
        rw [List.getElem?_map] at hx
        obtain ⟨n, hn, rfl⟩ := Option.map_eq_some_iff.1 hx
        have hj := List.getElem?_eq_some_iff.1 hn
        obtain ⟨hj1, hj2⟩ := hj
        rw [List.length_range] at hj1
        rw [List.getElem_range] at hj2
        subst hj2
        have e0 : (1 : Int) + ((j : Nat) : Int) = ((j + 1 : Nat) : Int) := by omega
        rw [e0]
        have hk := ek _ _ D1
        walk_at "wi"
        refine r_I (by omega) ?_
        walk_at "wi"
        rw [int_eq]
        refine ⟨fun hb => ?_, fun hb => ?_⟩
        · have hb := of_decide_eq_true hb
          have hdv : t.length % (j + 1) = 0 := by rw [rl]; omega
          walk_at "wi"
          refine r_slL hk fun a1 h1 => ?_
          rw [cut_lo, ← List.map_drop]
          have k1' := know (o := .lst (blV (t.drop (j + 1)))) h1 hk
          have q1 : (upd k a1 (.lst (blV (t.drop (j + 1))))) a1 = some (.lst (blV (t.drop (j + 1)))) := upd_same
          have x1 := ext_tr ek (ext_new (o := .lst (blV (t.drop (j + 1)))) h1)
          generalize upd k a1 (.lst (blV (t.drop (j + 1)))) = kA at k1' q1 x1 ⊢
          walk_at "wi"
          refine r_slL k1' fun a2 h2 => ?_
          rw [cut_hi, ← List.map_take]
          have k2 := know (o := .lst (blV (t.take (j + 1)))) h2 k1'
          have q2 : (upd kA a2 (.lst (blV (t.take (j + 1))))) a2 = some (.lst (blV (t.take (j + 1)))) := upd_same
          have q1 := know (o := .lst (blV (t.take (j + 1)))) h2 q1
          have x2 := ext_tr x1 (ext_new (o := .lst (blV (t.take (j + 1)))) h2)
          generalize upd kA a2 (.lst (blV (t.take (j + 1)))) = kB at k2 q1 q2 x2 ⊢
          walk_at "wi"
          refine r_cat q1 q2 (by rw [List.length_map, List.length_map, List.length_drop, List.length_take]; omega) fun a3 h3 => ?_
          rw [← List.map_append]
          have k3 := know (o := .lst (blV (turned t (j + 1)))) h3 k2
          have q3 : (upd kB a3 (.lst (blV (turned t (j + 1))))) a3 = some (.lst (blV (turned t (j + 1)))) := upd_same
          have x3 := ext_tr x2 (ext_new (o := .lst (blV (turned t (j + 1)))) h3)
          show W _ _ (upd kB a3 (.lst (blV (turned t (j + 1))))) _ _
          generalize upd kB a3 (.lst (blV (turned t (j + 1)))) = kC at k3 q3 x3 ⊢
          walk_at "wi"
          refine r_eq_d (.lst (sql q3) (dp_bls _)) (.lst (sql k3) (dp_bls _)) (shaped_bls _) (shaped_bls _) ?_
          rw [eqv_blL]
          walk_at "wi"
          refine ⟨fun hb2 => ?_, fun hb2 => ?_⟩
          · have hb2 := of_decide_eq_true hb2
            have hn : ¬ leastP t = sz := by
              have yes : isP t (j + 1) = true := by
                unfold isP
                rw [hb2]
                simp [hdv]
              rcases leastP_cases t with ⟨_, f⟩ | ⟨l, q, f⟩
              · rw [f (j + 1) (by omega)] at yes; cases yes
              · omega
            have := h kC (ext_tr e1 x3) 0
            unfold leastOK at this
            rw [decide_eq_false (fun z => hn (hl.2 z)), Bool.false_and] at this
            walk_at "wi"
            exact this
          · have hb2 := of_decide_eq_false hb2
            walk_at "wi"
            refine ⟨rfl, ⟨_, _, rfl⟩, x3, fun q hq => ?_⟩
            rcases Nat.lt_or_ge q (j + 1) with z | z
            · exact hp q (by omega)
            · have : q = j + 1 := by omega
              subst this
              unfold isP
              rw [decide_eq_false hb2]
              simp
        · have hb := of_decide_eq_false hb
          walk_at "wi"
          refine ⟨rfl, ⟨_, _, rfl⟩, ek, fun q hq => ?_⟩
          rcases Nat.lt_or_ge q (j + 1) with z | z
          · exact hp q (by omega)
          · have : q = j + 1 := by omega
            subst this
            unfold isP
            rw [decide_eq_false (show ¬ t.length % (j + 1) = 0 by rw [rl]; omega)]
            simp
      · rintro σ' k m ⟨rfl, ⟨y5, y6, rfl⟩, ek, hp⟩
        rw [List.length_map, List.length_range] at hp
        have e : leastP t = sz := by
          rcases leastP_cases t with ⟨e, _⟩ | ⟨l, q, _⟩
          · omega
          · rw [hp _ (by omega)] at q; cases q
        have := h k (ext_tr e1 ek) 0
        unfold leastOK at this
        rw [decide_eq_true (hl.1 e), Bool.true_and] at this
        walk_at "wi"
        refine ⟨fun hz => ?_, fun hz => ?_⟩
        · have hz := of_decide_eq_false hz
          have hd0 : ¬ hd = 0 := fun z => hz (by rw [z]; rfl)
          have e1m : ((hd : Nat) : Int) - 1 = ((hd - 1 : Nat) : Int) := by omega
          rw [decide_eq_false hd0, Bool.false_or] at this
          walk_at "w"
          rw [e1m]
          refine r_inQ (.inl (ek _ _ (e1 _ _ hlo))) rfl (flat_nats _) ?_
          rw [inV_nat]
          walk_at "w"
          refine r_I (by omega) ?_
          walk_at "w"
          rw [e1m, ← Int.natCast_emod]
          refine r_inQ (.inl (ek _ _ (e1 _ _ hov))) rfl (flat_nats _) ?_
          rw [inV_nat]
          walk_at "w"
          have ev : (!decide (V.bl (decide (hd - 1 ∈ xs)) = V.bl (decide ((hd - 1) % sz ∈ ys)))) = (decide (hd - 1 ∈ xs) != decide ((hd - 1) % sz ∈ ys)) := by
            cases decide (hd - 1 ∈ xs) <;> cases decide ((hd - 1) % sz ∈ ys) <;> decide
          rw [← ev] at this
          exact this
        · have hz := of_decide_eq_true hz
          have hd0 : hd = 0 := by have := V.int.inj hz; omega
          rw [decide_eq_true hd0, Bool.true_or] at this
          exact this
end

end NN

namespace NN
open PySem PySem.Spec PyProof.Rows L2 LamX AW ClX
-- a stay that is known
local macro_rules | `(tactic| walk_at "st") => `(tactic| first
  | assumption
  | ((with_reducible refine' StayAt.ext ?h1 ?h2); (case h1 => assumption); (case h2 => walk_at "st"))
  | ((with_reducible refine' StayAt.ext ?h1 ?h2); (case h1 => exact ext_new (by assumption)); (case h2 => walk_at "st")))
local macro_rules | `(tactic| walk_at "w2") => `(tactic| first
  | ((with_reducible refine' w_first ?h1 ?h2 ?h3 ?h4 ?_); (case h3 => rfl); (case h4 => walk_at "st"); (case h1 => assumption); (case h2 => assumption))
  | ((with_reducible refine' w_after ?h1 ?h2 ?h3 ?h4 ?_); (case h3 => rfl); (case h4 => walk_at "st"); (case h1 => assumption); (case h2 => assumption))
  | ((with_reducible refine' w_nights ?h1 ?h2 ?h3 ?h4 ?_); (case h3 => rfl); (case h4 => walk_at "st"); (case h1 => assumption); (case h2 => assumption)))
local macro_rules | `(tactic| walk_at "w") => `(tactic| repeat (first | walk_at "w1" | walk_at "w2" | dsimp only))
local macro_rules | `(tactic| walk_at "wi") => `(tactic| repeat (first | walk_at "w1" | walk_at "w2" | with_reducible refine' s_if ?_ | dsimp only))

open Tx1 Ln
/-! ### what the law's own look at a text says -/
theorem pair_eq {a b : List Nat} (ha : a.Pairwise (· < ·)) (hb : b.Pairwise (· < ·)) (h : ∀ x, x ∈ a ↔ x ∈ b) : a = b := by
  induction a generalizing b with
  | nil =>
    cases b with
    | nil => rfl
    | cons y b => exact absurd ((h y).2 (.head _)) (fun z => by cases z)
  | cons x a ih =>
    cases b with
    | nil => exact absurd ((h x).1 (.head _)) (fun z => by cases z)
    | cons y b =>
      obtain ⟨a1, a2⟩ := List.pairwise_cons.1 ha
      obtain ⟨b1, b2⟩ := List.pairwise_cons.1 hb
      have hxy : x = y := by
        rcases List.mem_cons.1 ((h x).1 (.head _)) with e | e
        · exact e
        · rcases List.mem_cons.1 ((h y).2 (.head _)) with f | f
          · exact f.symm
          · have := b1 x e
            have := a1 y f
            omega
      subst hxy
      rw [ih a2 b2 fun z => ⟨fun hz => ?_, fun hz => ?_⟩]
      · rcases List.mem_cons.1 ((h z).1 (.tail _ hz)) with e | e
        · have := a1 z hz; omega
        · exact e
      · rcases List.mem_cons.1 ((h z).2 (.tail _ hz)) with e | e
        · have := b1 z hz; omega
        · exact e
theorem idx_mask {s : Nat} {ns : List Nat} (hp : ns.Pairwise (· < ·)) (h : ∀ m ∈ ns, m < s) : idx (maskOf s ns) = ns := by
  refine pair_eq (sorted_range_filter _ _) hp fun x => ?_
  rw [mem_idx, mask_len]
  constructor
  · rintro ⟨a, b⟩
    rw [ix_mask a] at b
    exact of_decide_eq_true b
  · intro hx
    exact ⟨h x hx, by rw [ix_mask (h x hx)]; exact decide_eq_true hx⟩
theorem idx_pair (t : List Bool) : (idx t).Pairwise (· < ·) := sorted_range_filter _ _
def FinT (ws : List Str) (ns : List Nat) : Prop := RisT ws ns ∧ ns ≠ [] ∧ ∀ m ∈ ns, m < 399
theorem fin_isL {x : Str} {ws : List Str} {ns : List Nat} (hs : Txt.split x Tx1.spS = ws) (f : FinT ws ns) : isL x := by
  obtain ⟨⟨f1, f2, f3⟩, f4, f5⟩ := f
  obtain ⟨m, hm⟩ : ∃ m, ns.getLast? = some m := by
    cases h : ns.getLast? with
    | none => exact absurd (List.getLast?_eq_none_iff.1 h) f4
    | some m => exact ⟨m, rfl⟩
  obtain ⟨m1, m2⟩ := last_max f3 hm
  have hb : ∀ x ∈ ns, x < m + 1 := fun x hx => Nat.lt_succ_of_le (m2 x hx)
  have F : Form (maskOf (m + 1) ns) [false] := by
    refine ⟨by decide, by decide, fun _ => ?_, ?_⟩
    · rw [mask_len, Nat.add_sub_cancel, ix_mask (Nat.lt_succ_self _), decide_eq_true m1]
      simp [ix, Nat.mod_one]
    · rw [mask_len]
      have := f5 m m1
      show m + 1 + 1 ≤ 400
      omega
  refine ⟨_, _, F, ?_⟩
  have e0 : idx [false] = [] := by decide
  have ew : wordsT (maskOf (m + 1) ns) [false] = ws := by
    unfold wordsT tailW
    rw [if_pos e0, List.append_nil, idx_mask f3 hb, f1]
  have hw : ws ≠ [] := by rw [f1]; exact fun z => f4 (List.map_eq_nil_iff.1 z)
  unfold lnT
  rw [ew, if_neg hw, ← hs]
  rw [TL.join_eq]
  exact (PySem.StrLaws.join_split x Tx1.spS).symm
theorem fin_of {x : Str} {ws : List Str} (hx : ¬ x = noneS) (hs : Txt.split x Tx1.spS = ws) (hn : ¬ fromS ∈ ws) (h : isL x) : ∃ ns, FinT ws ns := by
  obtain ⟨nr, tn, F, e⟩ := h
  have hw : wordsT nr tn ≠ [] := fun z => hx (by rw [e]; unfold lnT; rw [if_pos z])
  rw [e, split_lnT hw] at hs
  have fl := F.le
  have fp := F.pos
  have hi : idx tn = [] := Classical.byContradiction fun z => hn (by rw [← hs, words_at z]; simp)
  have we : wordsT nr tn = (idx nr).map nS := by
    unfold wordsT tailW
    rw [if_pos hi, List.append_nil]
  refine ⟨idx nr, ⟨by rw [← hs, we], fun m hm => by have := (mem_idx.1 hm).1; omega, idx_pair nr⟩, fun z => hw (by rw [we, z]; rfl), fun m hm => ?_⟩
  have := (mem_idx.1 hm).1
  omega
structure PerT (lo r : List Str) (w1 w3 : Str) (h s : Nat) (ns ys : List Nat) : Prop where
  lo_ : RisT lo ns
  r_ : RisT r ys
  h_ : w1 = nS h
  s_ : w3 = nS s
  ne : ys ≠ []
  s1 : 1 ≤ s
  le : h + s ≤ 400
  ly : ∀ y ∈ ys, y < s
  lx : ∀ m ∈ ns, m < h
  ok : leastOK h s ns ys = true
theorem per_isL {x w1 w3 : Str} {ws r : List Str} {j h s : Nat} {ns ys : List Nat} (hs : Txt.split x Tx1.spS = ws) (hd : ws.drop j = fromS :: w1 :: byS :: w3 :: Tx1.atS :: r) (p : PerT (ws.take j) r w1 w3 h s ns ys) : isL x := by
  have ok := p.ok
  unfold leastOK at ok
  rw [Bool.and_eq_true, Bool.or_eq_true] at ok
  obtain ⟨o1, o2⟩ := ok
  have F : Form (maskOf h ns) (maskOf s ys) := by
    refine ⟨by rw [mask_len]; exact p.s1, by rw [mask_len]; exact of_decide_eq_true o1, fun hp => ?_, by rw [mask_len, mask_len]; exact p.le⟩
    rw [mask_len] at hp ⊢
    rw [mask_len, ix_mask (by omega), ix_mask (Nat.mod_lt _ p.s1)]
    rcases o2 with o2 | o2
    · have := of_decide_eq_true o2; omega
    · exact bne_iff_ne.1 o2
  refine ⟨_, _, F, ?_⟩
  have e1 := idx_mask p.lo_.2.2 p.lx
  have e2 := idx_mask p.r_.2.2 p.ly
  have ew : wordsT (maskOf h ns) (maskOf s ys) = ws := by
    rw [words_at (by rw [e2]; exact p.ne), e1, e2, mask_len, mask_len, ← p.h_, ← p.s_, ← p.lo_.1, ← p.r_.1, ← hd, List.take_append_drop]
  have hw : ws ≠ [] := fun z => by rw [z, List.drop_nil] at hd; cases hd
  unfold lnT
  rw [ew, if_neg hw, ← hs]
  rw [TL.join_eq]
  exact (PySem.StrLaws.join_split x Tx1.spS).symm
theorem per_of {x : Str} {ws : List Str} {j : Nat} (hx : ¬ x = noneS) (hs : Txt.split x Tx1.spS = ws) (hj : ws[j]? = some fromS) (hm : ∀ (m : Nat) (z : Str), m < j → ws[m]? = some z → z ≠ fromS) (hl : isL x) :
    ∃ w1 w3 r h s ns ys, ws.drop j = fromS :: w1 :: byS :: w3 :: Tx1.atS :: r ∧ PerT (ws.take j) r w1 w3 h s ns ys := by
  obtain ⟨nr, tn, F, e⟩ := hl
  have hw : wordsT nr tn ≠ [] := fun z => hx (by rw [e]; unfold lnT; rw [if_pos z])
  rw [e, split_lnT hw] at hs
  have fl := F.le
  have fp := F.pos
  have hi : idx tn ≠ [] := fun z => by
    have hn : fromS ∈ wordsT nr tn := by rw [hs]; exact List.mem_of_getElem? hj
    unfold wordsT tailW at hn
    rw [if_pos z, List.append_nil] at hn
    exact not_from hn
  rw [words_at hi] at hs
  obtain ⟨c1, c2⟩ := first_cut hj hm hs.symm (fun z => by
    obtain ⟨m, _, hz⟩ := List.mem_map.1 z
    exact nS_from m hz)
  refine ⟨_, _, _, nr.length, tn.length, idx nr, idx tn, c2.symm, ⟨⟨c1.symm, fun m h => by have := (mem_idx.1 h).1; omega, idx_pair nr⟩, ⟨rfl, fun m h => by have := (mem_idx.1 h).1; omega, idx_pair tn⟩, rfl, rfl, hi, fp, fl, fun m h => (mem_idx.1 h).1, fun m h => (mem_idx.1 h).1, ?_⟩⟩
  unfold leastOK
  rw [mask_idx, decide_eq_true F.per, Bool.true_and, Bool.or_eq_true]
  rcases Nat.eq_zero_or_pos nr.length with z | z
  · exact .inl (decide_eq_true z)
  · refine .inr (bne_iff_ne.2 ?_)
    have := F.beg z
    have b1 : decide (nr.length - 1 ∈ idx nr) = ix nr (nr.length - 1) := by
      have := ix_mask (n := nr.length) (i := nr.length - 1) (xs := idx nr) (by omega)
      rw [mask_idx] at this
      exact this.symm
    have b2 : decide ((nr.length - 1) % tn.length ∈ idx tn) = ix tn ((nr.length - 1) % tn.length) := by
      have := ix_mask (n := tn.length) (i := (nr.length - 1) % tn.length) (xs := idx tn) (Nat.mod_lt _ fp)
      rw [mask_idx] at this
      exact this.symm
    rw [b1, b2]
    exact this
theorem PerT.uniq {lo r r' : List Str} {w1 w1' w3 w3' : Str} {h s h' s' : Nat} {ns ys ns' ys' : List Nat} (p : PerT lo r w1 w3 h s ns ys) (q : PerT lo r' w1' w3' h' s' ns' ys') (e1 : w1 = w1') (e3 : w3 = w3') (er : r = r') : h = h' ∧ s = s' ∧ ns = ns' ∧ ys = ys' := by
  subst e1 e3 er
  exact ⟨nS_inj (p.h_.symm.trans q.h_), nS_inj (p.s_.symm.trans q.s_), p.lo_.uniq q.lo_, p.r_.uniq q.r_⟩
theorem split_none {x : Str} : Txt.split x Tx1.spS = [noneS] ↔ x = noneS := by
  constructor
  · intro h
    have := PySem.StrLaws.join_split x Tx1.spS
    rw [h] at this
    exact this.symm
  · rintro rfl
    decide +kernel
theorem dp_nats {K : PySem.W.Frag} {H : Hp} : ∀ xs : List Nat, DpAll K H (natV xs) (xs.map fun (n : Nat) => PyData.int n)
  | [] => .nil
  | n :: r => .cons (.int _) (dp_nats r)
theorem lay_nats : ∀ xs : List Nat, PyData.canLayAll0 (xs.map fun (n : Nat) => PyData.int n) = true
  | [] => by simp [PyData.canLayAll0]
  | n :: r => by simp only [List.map_cons, PyData.canLayAll0, PyData.canLay0]; rw [lay_nats r]; rfl
theorem deep_nats : ∀ xs : List Nat, PyData.depthAll (xs.map fun (n : Nat) => PyData.int n) = 0
  | [] => by simp [PyData.depthAll]
  | n :: r => by simp only [List.map_cons, PyData.depthAll, PyData.depth]; rw [deep_nats r]; rfl
theorem shaped_natL (xs : List Nat) : SeqAt.shaped (.list (xs.map fun (n : Nat) => PyData.int n)) = true := by
  unfold SeqAt.shaped
  rw [show PyData.canLay0 (.list (xs.map fun (n : Nat) => PyData.int n)) = true by simp only [PyData.canLay0]; exact lay_nats xs, show PyData.depth (.list (xs.map fun (n : Nat) => PyData.int n)) = 1 by simp only [PyData.depth]; rw [deep_nats xs]]
  rfl
theorem eqv_nats : ∀ a b : List Nat, PyData.eqvAll (a.map fun (n : Nat) => PyData.int n) (b.map fun (n : Nat) => PyData.int n) = decide (a = b)
  | [], [] => by simp [PyData.eqvAll]
  | [], _ :: _ => by simp [PyData.eqvAll]
  | _ :: _, [] => by simp [PyData.eqvAll]
  | x :: a, y :: b => by
    simp only [List.map_cons, PyData.eqvAll, PyData.eqv, eqv_nats a b]
    rw [Bool.eq_iff_iff]
    simp
    omega
theorem eqv_natL (xs : List Nat) : PyData.eqv (.list (xs.map fun (n : Nat) => PyData.int n)) (.list []) = xs.isEmpty := by
  cases xs <;> simp [PyData.eqv, PyData.eqvAll]
/-! ### the text -/

end NN

namespace NN
open PySem PySem.Spec PyProof.Rows L2 LamX AW ClX
-- a stay that is known
local macro_rules | `(tactic| walk_at "st") => `(tactic| first
  | assumption
  | ((with_reducible refine' StayAt.ext ?h1 ?h2); (case h1 => assumption); (case h2 => walk_at "st"))
  | ((with_reducible refine' StayAt.ext ?h1 ?h2); (case h1 => exact ext_new (by assumption)); (case h2 => walk_at "st")))
local macro_rules | `(tactic| walk_at "w2") => `(tactic| first
  | ((with_reducible refine' w_first ?h1 ?h2 ?h3 ?h4 ?_); (case h3 => rfl); (case h4 => walk_at "st"); (case h1 => assumption); (case h2 => assumption))
  | ((with_reducible refine' w_after ?h1 ?h2 ?h3 ?h4 ?_); (case h3 => rfl); (case h4 => walk_at "st"); (case h1 => assumption); (case h2 => assumption))
  | ((with_reducible refine' w_nights ?h1 ?h2 ?h3 ?h4 ?_); (case h3 => rfl); (case h4 => walk_at "st"); (case h1 => assumption); (case h2 => assumption)))
local macro_rules | `(tactic| walk_at "w") => `(tactic| repeat (first | walk_at "w1" | walk_at "w2" | dsimp only))
local macro_rules | `(tactic| walk_at "wi") => `(tactic| repeat (first | walk_at "w1" | walk_at "w2" | with_reducible refine' s_if ?_ | dsimp only))

open Tx1 Ln
theorem s_par3 {c : Cw} {kn : Hp} {n : Nat} {σ : L2.St} {D : AE} {i j l : Nat} {ta : TA} (h : W c (ta σ) kn n fun vs kn1 n1 => ∃ u v w, vs = [u, v, w] ∧ D.nx (((σ.set i (some u)).set j (some v)).set l (some w)) kn1 n1) : WS c (tPar3 i j l ta) D σ kn n :=
  fun H g D' f => h H g _ fun vs kn1 n1 H1 ⟨u, v, w, e, hq⟩ g1 => ⟨u, v, w, e, f.nx _ _ _ _ hq g1⟩
theorem r_isNi {c : Cw} {kn : Hp} {n : Nat} {Q : V → Hp → Nat → Prop} {i : Int} (q : Q (V.bl false) kn n) : W c (rIsN (.int i) .non) kn n Q := fun H g _ k => ⟨rfl, k _ kn n H q g⟩
def bIT : List V → Hp → AK → AXK → Prop := fun vs kn Q _ => ∃ x : Str, vs = [.str x] ∧ Asc x ∧ (isL x → ∀ k', Ext kn k' → Q (.bl true) k') ∧ (¬ isL x → ∀ k', Ext kn k' → Q (.bl false) k')
theorem mo_IT : MonoX bIT := by
  rintro vs kn Q R E F h1 h2 ⟨x, a, b, c, d⟩
  exact ⟨x, a, b, fun z k e => h1 _ _ (c z k e), fun z k e => h1 _ _ (d z k e)⟩
theorem split_ne {x : Str} (h : Txt.split x Tx1.spS = []) : False := by
  have := PySem.StrLaws.join_split x Tx1.spS
  rw [h] at this
  have e : x = Str.join Tx1.spS [] := this.symm
  rw [e] at h
  exact absurd h (by decide +kernel)
theorem last_of {ns : List Nat} (h : ns ≠ []) : ∃ l m, ns = l ++ [m] := (List.eq_nil_or_concat ns).resolve_left h |>.elim fun l ⟨m, e⟩ => ⟨l, m, by rw [e]; simp⟩
theorem six_of {fs : List Str} (h : 6 ≤ fs.length) : ∃ a b c d e f r, fs = a :: b :: c :: d :: e :: f :: r := by
  match fs, h with
  | a :: b :: c :: d :: e :: f :: r, _ => exact ⟨a, b, c, d, e, f, r, rfl⟩
theorem cn_cases (w : Str) : (∃ h, h < 1000 ∧ w = nS h) ∨ ¬ isC 3 w := by
  by_cases z : isC 3 w
  · obtain ⟨m, a, b⟩ := z
    exact .inl ⟨m, a, b⟩
  · exact .inr z
theorem none_isL : isL noneS := by
  have FN : Form [] [false] := ⟨by decide, by decide, fun h => absurd h (by decide), by decide⟩
  exact ⟨[], [false], FN, by decide +kernel⟩
section
variable {P : Program} {w : World} {K : PySem.W.Frag} {mg : Str → Option Value} {base : Heap}
theorem ok__law_is_text (T : Tx K mg) : FnOk P w K mg base CX0 3 T.f__law_is_text T.d__law_is_text ["line"] (liftX bIT) := by
  refine T.F__law_is_text.ok sc__law_is_text (fun vs H Q E h => ?_) (fun cdv A outer s H vs Q E hr h => ?_)
  · obtain ⟨kn, _, _, x, rfl, _⟩ := h
    rfl
  · obtain ⟨kn, ex, nt, x, rfl, asc, hy, hn'⟩ := h
    refine ⟨_, (pss_cons (ps_set (i := 1) sc__law_is_text.nd rfl (by first | exact Or.inl rfl | exact Or.inr rfl) (pe_splitQ (pv 0) pe_str))
       (pss_cons (ps_if (pt_cmpR (show OpR _ _ (rEqD K) from op_eqD hr.units) (pv 1) (pe_lst (pa_cons pe_str pa_nil)) (nomark _))
       (pss_one (ps_ret pe_bl))
       pss_nil)
       (pss_cons (ps_set (i := 2) sc__law_is_text.nd rfl (by first | exact Or.inl rfl | exact Or.inr rfl) (pe_ifExp (pt_cmpR (show OpR _ _ (rInQ K false) from c_inQ) pe_str (pv 1) (by rfl)) (pe_bm PySem.F.plainAttrs_list PySem.F.slot_list_index PySem.F.type_list_index mt_index (pv 1) (pa_cons pe_str pa_nil)) (pe_callB c_len (by rfl) T.b_len PySem.boot_len (pa_cons (pv 1) pa_nil))))
       (pss_cons (ps_par (i := 3) (j := 4) (by rfl) sc__law_is_text.nd rfl rfl (by decide) rfl rfl (pa_cons (pe_call (ok__law_rising T) (hr.mono (by decide)) (by rfl) T.g__law_rising T.F__law_rising.kp T.bd__law_rising .nil pass0 (pa_cons (pe_slice (show SlR _ (rSlL K) from sl_list) (pv 1) po_none (po_some (pv 2))) pa_nil)) (pa_cons (pe_slice (show SlR _ (rSlL K) from sl_list) (pv 1) (po_some (pv 2)) po_none) pa_nil)) (by rfl))
       (pss_cons (ps_if (pt_cmpR c_isN (pv 3) pe_non (nomark _))
       (pss_one (ps_ret pe_bl))
       pss_nil)
       (pss_cons (ps_if (pt_cmpR (show OpR _ _ (rEqD K) from op_eqD hr.units) (pv 4) (pe_lst pa_nil) (nomark _))
       (pss_one (ps_ret (pe_cmpR op_lt (pe_ix (show IxR _ (rIxL K) from ix_list) (pv 3) (pe_un un_neg pe_int) (fun _ _ => rfl)) pe_int (nomark _))))
       pss_nil)
       (pss_cons (ps_if (PW.pt (pw_or (pt_cmpR op_lt (pe_callB c_len (by rfl) T.b_len PySem.boot_len (pa_cons (pv 4) pa_nil)) pe_int (nomark _)) (pw_or (pt_cmpR op_ne (pe_ix (show IxR _ (rIxL K) from ix_list) (pv 4) pe_int (fun _ _ => rfl)) pe_str (nomark _)) (pw_or1 (pt_cmpR op_ne (pe_ix (show IxR _ (rIxL K) from ix_list) (pv 4) pe_int (fun _ _ => rfl)) pe_str (nomark _))))))
       (pss_one (ps_ret pe_bl))
       pss_nil)
       (pss_cons (ps_par3 (i := 5) (j := 6) (l := 7) (by rfl) sc__law_is_text.nd rfl rfl rfl (by decide) (by decide) (by decide) rfl rfl rfl (pa_cons (pe_call (ok__law_number T) (hr.mono (by decide)) (by rfl) T.g__law_number T.F__law_number.kp T.bd__law_number .nil pass0 (pa_cons (pe_ix (show IxR _ (rIxL K) from ix_list) (pv 4) pe_int (fun _ _ => rfl)) pa_nil)) (pa_cons (pe_call (ok__law_number T) (hr.mono (by decide)) (by rfl) T.g__law_number T.F__law_number.kp T.bd__law_number .nil pass0 (pa_cons (pe_ix (show IxR _ (rIxL K) from ix_list) (pv 4) pe_int (fun _ _ => rfl)) pa_nil)) (pa_cons (pe_call (ok__law_rising T) (hr.mono (by decide)) (by rfl) T.g__law_rising T.F__law_rising.kp T.bd__law_rising .nil pass0 (pa_cons (pe_slice (show SlR _ (rSlL K) from sl_list) (pv 4) (po_some pe_int) po_none) pa_nil)) pa_nil))) (by rfl))
       (pss_cons (ps_if (PW.pt (pw_or (pt_cmpR c_isN (pv 5) pe_non (nomark _)) (pw_or (pt_cmpR c_isN (pv 6) pe_non (nomark _)) (pw_or (pt_cmpR c_isN (pv 7) pe_non (nomark _)) (pw_or (pt_cmpR op_eq (pv 6) pe_int (nomark _)) (pw_or (pt_cmpR op_gt (pe_op op_add (pv 5) (pv 6)) pe_int (nomark _)) (pw_or1 (pt_cmpR op_ge (pe_ix (show IxR _ (rIxL K) from ix_list) (pv 7) (pe_un un_neg pe_int) (fun _ _ => rfl)) (pv 6) (nomark _)))))))))
       (pss_one (ps_ret pe_bl))
       pss_nil)
       (pss_one (ps_ret (pe_and (pe_or (pe_cmpR (op_eqD hr.units) (pv 3) (pe_lst pa_nil) (nomark _)) (pe_one (pe_cmpR op_lt (pe_ix (show IxR _ (rIxL K) from ix_list) (pv 3) (pe_un un_neg pe_int) (fun _ _ => rfl)) (pv 5) (nomark _)))) (pe_one (pe_call (ok__law_is_least T) (hr.mono (by decide)) (by rfl) T.g__law_is_least T.F__law_is_least.kp T.bd__law_is_least .nil pass0 (pa_cons (pv 5) (pa_cons (pv 3) (pa_cons (pv 6) (pa_cons (pv 7) pa_nil)))))))))))))))))), ?_⟩
    refine body_of (pure_start ex nt) ?_
    walk_at "wi"
    refine w_m1 ?_
    walk_at "w"
    refine ⟨⟨_, rfl⟩, ?_⟩
    walk_at "w"
    rw [sp_eq]
    have hl := asc.2
    refine r_split (by decide) (by omega) fun p hp => ?_
    obtain ⟨ws, hws⟩ : ∃ ws, Txt.split x Tx1.spS = ws := ⟨_, rfl⟩
    have hasc : ∀ x ∈ ws, Asc x := fun z hz => split_asc (by rw [hws]; exact hz) asc
    have hlen : ws.length ≤ 1000 := by
      rw [← hws]
      have := split_weight x Tx1.spS (by decide)
      have l0 := (List.map (fun x : Str => x.length) (Txt.split x Tx1.spS)).sum.zero_le
      omega
    rw [hws]
    have e1 : Ext kn (upd kn p (.lst (strV ws))) := ext_new hp
    have p1 : (upd kn p (.lst (strV ws))) p = some (.lst (strV ws)) := upd_same
    show WS _ _ _ _ (upd kn p (.lst (strV ws))) _
    generalize upd kn p (.lst (strV ws)) = k1 at e1 p1 ⊢
    walk_at "wi"
    refine ⟨show 1 ≤ 1000 by decide, fun p2 hp2 => ?_⟩
    rw [none_eq]
    refine r_eq_d (.lst (sql (know hp2 p1)) (dp_strs ws)) (.lst (sql upd_same) (dp_strs [noneS])) (shaped_strs _ fun s hs => Asc_ok (hasc s hs)) (by decide +kernel) ?_
    rw [eqv_strL]
    have e2 := ext_tr e1 (ext_new (o := .lst [V.str noneS]) hp2)
    have p2' := know (o := .lst [V.str noneS]) hp2 p1
    generalize upd k1 p2 (.lst [V.str noneS]) = k2 at e2 p2' ⊢
    walk_at "wi"
    refine ⟨fun hb => ?_, fun hb => ?_⟩
    · have hb := of_decide_eq_true hb
      walk_at "wi"
      have := split_none.1 (hws.trans hb)
      exact hy (by rw [this]; exact none_isL) k2 e2 0
    · have hb : ¬ x = noneS := fun z => of_decide_eq_false hb (hws.symm.trans (split_none.2 z))
      walk_at "wi"
      refine r_inQ (.inl p2') rfl (flat_strs _) ?_
      rw [from_eq, inV_str]
      walk_at "wi"
      refine ⟨fun hb2 => ?_, fun hb2 => ?_⟩
      · have hn : fromS ∈ ws := by simpa using hb2
        obtain ⟨j, hj, hm⟩ := first_at hn
        walk_at "wi"
        refine w_index rfl p2' hj hm ?_
        walk_at "wi"
        refine w_call (EA := fun _ _ _ _ => False) mo_ris err_no ?_
        walk_at "w"
        refine r_slL p2' fun L hL => ?_
        have c1 : cutV (strV ws) none (some ((j : Nat) : Int)) = strV (ws.take j) := by
          rw [cut_hi]
          exact (List.map_take ..).symm
        have c2 : cutV (strV ws) (some ((j : Nat) : Int)) none = strV (ws.drop j) := by
          rw [cut_lo]
          exact (List.map_drop ..).symm
        rw [c1]
        have hta : ∀ z ∈ ws.take j, Asc z := fun z hz => hasc z (List.mem_of_mem_take hz)
        have hda : ∀ z ∈ ws.drop j, Asc z := fun z hz => hasc z (List.mem_of_mem_drop hz)
        have htl : (ws.take j).length ≤ 1000 := by rw [List.length_take]; omega
        have hdl : (ws.drop j).length ≤ 1000 := by rw [List.length_drop]; omega
        have W3 := know (o := .lst (strV (ws.take j))) hL p2'
        have e3 := ext_tr e2 (ext_new (o := .lst (strV (ws.take j))) hL)
        have L3 : (upd k2 L (.lst (strV (ws.take j)))) L = some (.lst (strV (ws.take j))) := upd_same
        generalize upd k2 L (.lst (strV (ws.take j))) = k3 at L3 W3 e3 ⊢
        walk_at "w"
        refine ⟨L, ws.take j, rfl, L3, htl, hta, fun ns r D k4 e4 D4 => ?_, fun no k4 e4 => ?_⟩
        · walk_at "wi"
          refine r_slL (e4 _ _ W3) fun G hG => ?_
          rw [c2]
          have D5 := know (o := .lst (strV (ws.drop j))) hG D4
          have e5 := ext_tr e3 (ext_tr e4 (ext_new (o := .lst (strV (ws.drop j))) hG))
          have G5 : (upd k4 G (.lst (strV (ws.drop j)))) G = some (.lst (strV (ws.drop j))) := upd_same
          generalize upd k4 G (.lst (strV (ws.drop j))) = k5 at D5 G5 e5 ⊢
          clear c1 c2 W3 L3
          walk_at "wi"
          refine ⟨_, _, rfl, ?_⟩
          obtain ⟨fs, hfs⟩ : ∃ fs, ws.drop j = fs := ⟨_, rfl⟩
          have hfn : fs ≠ [] := fun z => by
            have := (List.getElem?_eq_some_iff.1 hj).1
            have h2 := congrArg List.length (hfs.trans z)
            rw [List.length_drop] at h2
            simp only [List.length_nil] at h2
            omega
          rw [hfs] at G5 hda hdl
          walk_at "wi"
          refine ⟨show 0 ≤ 1000 by decide, fun p6 hp6 => ?_⟩
          refine r_eq_d (.lst (sql (know hp6 G5)) (dp_strs fs)) (.lst (sql upd_same) (dp_strs [])) (shaped_strs _ fun s hs => Asc_ok (hda s hs)) (by decide +kernel) ?_
          rw [eqv_strL, decide_eq_false hfn]
          have D6 := know (o := .lst []) hp6 D5
          have G6 := know (o := .lst []) hp6 G5
          have e6 := ext_tr e5 (ext_new (o := .lst []) hp6)
          generalize upd k5 p6 (.lst []) = k6 at D6 G6 e6 ⊢
          have key : isL x → ∃ w1 w3 r h s ns ys, fs = fromS :: w1 :: byS :: w3 :: Tx1.atS :: r ∧ PerT (ws.take j) r w1 w3 h s ns ys := fun z => by
            have := per_of hb hws hj hm z
            rw [hfs] at this
            exact this
          walk_at "wi"
          rw [List.length_map]
          refine ⟨fun h6 => ?_, fun h6 => ⟨fun _ => ?_, fun z => absurd z (by decide)⟩⟩
          · have h6 := of_decide_eq_false h6
            obtain ⟨f0, w1, f2, w3, f4, r0, rr, rfl⟩ := six_of (fs := fs) (by omega)
            have hf0 : f0 = fromS := by
              have : ws = ws.take j ++ ws.drop j := (List.take_append_drop j ws).symm
              have h0 : (ws.drop j)[0]? = ws[j]? := by rw [List.getElem?_drop]; simp
              rw [hfs, hj] at h0
              exact Option.some.inj h0
            subst hf0
            walk_at "wi"
            refine r_ixL G6 (atI_nat (j := 2) rfl) ?_
            walk_at "wi"
            refine ⟨fun h2 => ?_, fun h2 => ⟨fun _ => ?_, fun z => absurd z (by decide)⟩⟩
            · have h2 : V.str f2 = V.str (Str.ofString "by") := by simpa using h2
              have h2 : f2 = byS := by rw [← by_eq]; exact V.str.inj h2
              subst h2
              walk_at "wi"
              refine r_ixL G6 (atI_nat (j := 4) rfl) ?_
              walk_at "wi"
              refine ⟨fun h4 => ?_, fun h4 => ?_⟩
              · walk_at "wi"
                have h4 : ¬ f4 = Tx1.atS := fun z => by
                  rw [z, at_eq] at h4
                  simp at h4
                refine hn' (fun z => ?_) _ e6 0
                obtain ⟨w1', w3', r', h, s, ns', ys, ef, q⟩ := key z
                exact h4 (List.cons.inj (List.cons.inj (List.cons.inj (List.cons.inj (List.cons.inj ef).2).2).2).2).1
              · have h4 : V.str f4 = V.str (Str.ofString "at") := by simpa using h4
                have h4 : f4 = Tx1.atS := by rw [← at_eq]; exact V.str.inj h4
                subst h4
                have key2 : isL x → ∃ h s ns' ys, PerT (ws.take j) (r0 :: rr) w1 w3 h s ns' ys := fun z => by
                  obtain ⟨w1', w3', r', h, s, ns', ys, ef, q⟩ := key z
                  have g1 := (List.cons.inj (List.cons.inj ef).2).1
                  have g3 := (List.cons.inj (List.cons.inj (List.cons.inj (List.cons.inj ef).2).2).2).1
                  have g5 := (List.cons.inj (List.cons.inj (List.cons.inj (List.cons.inj (List.cons.inj ef).2).2).2).2).2
                  exact ⟨h, s, ns', ys, by rw [g1, g3, g5]; exact q⟩
                walk_at "wi"
                refine s_par3 ?_
                walk_at "w"
                refine w_call (EA := fun _ _ _ _ => False) mo_num err_no ?_
                walk_at "w"
                refine r_ixL G6 (atI_nat (j := 1) rfl) ?_
                walk_at "w"
                refine ⟨w1, rfl, hda _ (.tail _ (.head _)), fun k7 e7 => ?_⟩
                walk_at "w"
                refine w_call (EA := fun _ _ _ _ => False) mo_num err_no ?_
                walk_at "w"
                refine r_ixL (e7 _ _ G6) (atI_nat (j := 3) rfl) ?_
                walk_at "w"
                refine ⟨w3, rfl, hda _ (.tail _ (.tail _ (.tail _ (.head _)))), fun k8 e8 => ?_⟩
                walk_at "w"
                refine w_call (EA := fun _ _ _ _ => False) mo_ris err_no ?_
                walk_at "w"
                refine r_slL (e8 _ _ (e7 _ _ G6)) fun S hS => ?_
                have c5 : cutV (strV (fromS :: w1 :: byS :: w3 :: Tx1.atS :: r0 :: rr)) (some 5) none = strV (r0 :: rr) := cut_lo _ 5
                rw [c5]
                have e9 := ext_tr e6 (ext_tr e7 (ext_tr e8 (ext_new (o := .lst (strV (r0 :: rr))) hS)))
                have D9 := know (o := .lst (strV (r0 :: rr))) hS (e8 _ _ (e7 _ _ D6))
                have S9 : (upd k8 S (.lst (strV (r0 :: rr)))) S = some (.lst (strV (r0 :: rr))) := upd_same
                generalize upd k8 S (.lst (strV (r0 :: rr))) = k9 at D9 S9 e9 ⊢
                walk_at "w"
                refine ⟨S, r0 :: rr, rfl, S9, by simp only [List.length_cons] at hdl ⊢; omega, fun z hz => hda z (.tail _ (.tail _ (.tail _ (.tail _ (.tail _ hz))))), fun ys ry Vy k10 e10 V10 => ?_, fun no k10 e10 => ?_⟩
                · walk_at "w"
                  refine ⟨_, _, _, rfl, ?_⟩
                  rcases cn_cases w1 with ⟨h, hh, rfl⟩ | n1
                  · rw [cnV_nS hh]
                    rcases cn_cases w3 with ⟨s, hs, rfl⟩ | n3
                    · rw [cnV_nS hs]
                      walk_at "wi"
                      refine r_isNi ?_
                      walk_at "wi"
                      refine r_isNi ?_
                      have hys : ys ≠ [] := fun z => by
                        have := ry.1
                        rw [z] at this
                        cases this
                      obtain ⟨l, m, em⟩ := last_of hys
                      have hlast := last_max ry.2.2 (m := m) (by rw [em]; simp)
                      have em2 : natV ys = natV l ++ [V.int m] := by rw [em]; unfold natV; rw [List.map_append]; rfl
                      have eA := ext_tr e9 e10
                      have kD := e10 _ _ D9
                      have uq : isL x → PerT (ws.take j) (r0 :: rr) (nS h) (nS s) h s ns ys := fun z => by
                        obtain ⟨h', s', ns', ys', q⟩ := key2 z
                        obtain rfl := nS_inj q.h_
                        obtain rfl := nS_inj q.s_
                        obtain rfl := q.lo_.uniq r
                        obtain rfl := q.r_.uniq ry
                        exact q
                      walk_at "wi"
                      refine ⟨fun g0 => ?_, fun g0 => ⟨fun _ => ?_, fun z => absurd z (by decide)⟩⟩
                      · have g0 : ¬ s = 0 := fun z => of_decide_eq_false g0 (by rw [z]; rfl)
                        walk_at "wi"
                        refine ⟨fun g1 => ?_, fun g1 => ⟨fun _ => ?_, fun z => absurd z (by decide)⟩⟩
                        · have g1 := of_decide_eq_false g1
                          walk_at "wi"
                          refine r_ixL V10 (by rw [em2]; exact atI_last _ _) ?_
                          walk_at "wi"
                          refine ⟨fun g2 => ?_, fun g2 => ?_⟩
                          · have g2 := of_decide_eq_true g2
                            walk_at "wi"
                            refine hn' (fun z => ?_) _ eA 0
                            have q := uq z
                            have := q.ly m hlast.1
                            omega
                          · have g2 := of_decide_eq_false g2
                            have hly : ∀ y ∈ ys, y < s := fun y hy => by have := hlast.2 y hy; omega
                            have fin : (∀ m ∈ ns, m < h) → ∀ k, Ext kn k → ∀ H', AW.Good (pureC kn H) k 0 H' → Q (.bl (leastOK h s ns ys)) H' := fun lx k e => by
                              by_cases ok : leastOK h s ns ys = true
                              · rw [ok]
                                exact hy (per_isL hws hfs ⟨r, ry, rfl, rfl, hys, by omega, by omega, hly, lx, ok⟩) k e 0
                              · rw [Bool.eq_false_iff.2 ok]
                                exact hn' (fun z => ok (uq z).ok) k e 0
                            have lns : ns.length ≤ 1000 := by
                              have := congrArg List.length r.1
                              rw [List.length_map] at this
                              omega
                            have lys : ys.length ≤ 1000 := by
                              have := congrArg List.length ry.1
                              rw [List.length_map] at this
                              simp only [List.length_cons] at hdl this
                              omega
                            walk_at "wi"
                            refine ⟨show 0 ≤ 1000 by decide, fun q11 hq11 => ?_⟩
                            refine r_eq_d (.lst (sql (know hq11 kD)) (dp_nats ns)) (.lst (sql upd_same) .nil) (shaped_natL ns) (by decide +kernel) ?_
                            rw [eqv_natL]
                            have kD := know (o := .lst []) hq11 kD
                            have kV := know (o := .lst []) hq11 V10
                            have eB := ext_tr eA (ext_new (o := .lst []) hq11)
                            generalize upd k10 q11 (.lst []) = k11 at kD kV eB ⊢
                            walk_at "wi"
                            refine ⟨fun hz => ?_, fun hz => ?_⟩
                            · have hz : ns ≠ [] := fun z => by rw [z] at hz; cases hz
                              obtain ⟨l', m', em'⟩ := last_of hz
                              have hlast' := last_max r.2.2 (m := m') (by rw [em']; simp)
                              have em2' : natV ns = natV l' ++ [V.int m'] := by rw [em']; unfold natV; rw [List.map_append]; rfl
                              walk_at "wi"
                              refine r_ixL kD (by rw [em2']; exact atI_last _ _) ?_
                              walk_at "wi"
                              refine ⟨fun hm => ?_, fun hm => ?_⟩
                              · have hm := of_decide_eq_true hm
                                refine w_call (EA := fun _ _ _ _ => False) mo_IL err_no (w_cons (w_var rfl (w_cons (w_var rfl (w_cons (w_var rfl (w_cons (w_var rfl (w_nil ?_)))))))))
                                exact ⟨h, s, D, Vy, ns, ys, rfl, kD, kV, by omega, by omega, lns, lys, fun k e => fin (fun z hz => by have := hlast'.2 z hz; omega) k (ext_tr eB e)⟩
                              · have hm := of_decide_eq_false hm
                                refine hn' (fun z => ?_) _ eB 0
                                have := (uq z).lx m' hlast'.1
                                omega
                            · have hz : ns = [] := List.isEmpty_iff.1 hz
                              walk_at "wi"
                              refine w_call (EA := fun _ _ _ _ => False) mo_IL err_no (w_cons (w_var rfl (w_cons (w_var rfl (w_cons (w_var rfl (w_cons (w_var rfl (w_nil ?_)))))))))
                              exact ⟨h, s, D, Vy, ns, ys, rfl, kD, kV, by omega, by omega, lns, lys, fun k e => fin (fun z hz' => by rw [hz] at hz'; cases hz') k (ext_tr eB e)⟩
                        · have g1 := of_decide_eq_true g1
                          walk_at "wi"
                          refine hn' (fun z => ?_) _ eA 0
                          have q := uq z
                          have := q.le
                          omega
                      · have g0 : s = 0 := by have := V.int.inj (of_decide_eq_true g0); omega
                        walk_at "wi"
                        refine hn' (fun z => ?_) _ eA 0
                        have q := uq z
                        have := q.s1
                        omega
                    · rw [cnV_no n3]
                      walk_at "wi"
                      refine r_isNi ?_
                      walk_at "wi"
                      refine hn' (fun z => ?_) _ (ext_tr e9 e10) 0
                      obtain ⟨h, s, ns', ys', q⟩ := key2 z
                      exact n3 (by rw [q.s_]; exact isC_nS (by have := q.le; omega))
                  · rw [cnV_no n1]
                    walk_at "wi"
                    refine hn' (fun z => ?_) _ (ext_tr e9 e10) 0
                    obtain ⟨h, s, ns', ys', q⟩ := key2 z
                    exact n1 (by rw [q.h_]; exact isC_nS (by have := q.le; omega))
                · walk_at "w"
                  refine ⟨_, _, _, rfl, ?_⟩
                  have nol : ¬ isL x := fun z => by
                    obtain ⟨h, s, ns', ys', q⟩ := key2 z
                    exact no ⟨ys', q.r_⟩
                  rcases cn_cases w1 with ⟨h, hh, rfl⟩ | n1
                  · rw [cnV_nS hh]
                    rcases cn_cases w3 with ⟨s, hs, rfl⟩ | n3
                    · rw [cnV_nS hs]
                      walk_at "wi"
                      refine r_isNi ?_
                      walk_at "wi"
                      refine r_isNi ?_
                      walk_at "wi"
                      exact hn' nol _ (ext_tr e9 e10) 0
                    · rw [cnV_no n3]
                      walk_at "wi"
                      refine r_isNi ?_
                      walk_at "wi"
                      exact hn' nol _ (ext_tr e9 e10) 0
                  · rw [cnV_no n1]
                    walk_at "wi"
                    exact hn' nol _ (ext_tr e9 e10) 0
            · walk_at "wi"
              have h2 : ¬ f2 = byS := fun z => by
                rw [z, by_eq] at h2
                simp at h2
              refine hn' (fun z => ?_) _ e6 0
              obtain ⟨w1', w3', r', h, s, ns', ys, ef, q⟩ := key z
              exact h2 (List.cons.inj (List.cons.inj (List.cons.inj ef).2).2).1
          · walk_at "wi"
            refine hn' (fun z => ?_) _ e6 0
            have h6 := of_decide_eq_true h6
            obtain ⟨w1, w3, r, h, s, ns', ys, ef, q⟩ := key z
            have hr : 0 < r.length := by
              rw [q.r_.1, List.length_map]
              exact List.length_pos_iff.2 q.ne
            rw [ef] at h6
            simp only [List.length_cons] at h6
            omega
        · walk_at "wi"
          refine r_slL (e4 _ _ W3) fun G hG => ?_
          walk_at "wi"
          refine ⟨_, _, rfl, ?_⟩
          walk_at "wi"
          refine hn' (fun z => ?_) _ (ext_tr e3 (ext_tr e4 (ext_new hG))) 0
          obtain ⟨_, _, _, _, _, ns, _, _, q⟩ := per_of hb hws hj hm z
          exact no ⟨ns, q.lo_⟩
      · have hn : ¬ fromS ∈ ws := by simpa using hb2
        walk_at "wi"
        refine w_call (EA := fun _ _ _ _ => False) mo_ris err_no ?_
        walk_at "w"
        refine r_slL p2' fun L hL => ?_
        have c1 : cutV (strV ws) none (some (((strV ws).length : Nat) : Int)) = strV ws := by
          rw [cut_hi, List.take_length]
        have c2 : cutV (strV ws) (some (((strV ws).length : Nat) : Int)) none = strV [] := by
          rw [cut_lo, List.drop_length]
          rfl
        rw [c1]
        have W3 := know (o := .lst (strV ws)) hL p2'
        have e3 := ext_tr e2 (ext_new (o := .lst (strV ws)) hL)
        have L3 : (upd k2 L (.lst (strV ws))) L = some (.lst (strV ws)) := upd_same
        generalize upd k2 L (.lst (strV ws)) = k3 at L3 W3 e3 ⊢
        walk_at "w"
        refine ⟨L, ws, rfl, L3, hlen, hasc, fun ns r D k4 e4 D4 => ?_, fun no k4 e4 => ?_⟩
        · walk_at "wi"
          refine r_slL (e4 _ _ W3) fun G hG => ?_
          rw [c2]
          have D5 := know (o := .lst (strV [])) hG D4
          have e5 := ext_tr e3 (ext_tr e4 (ext_new (o := .lst (strV [])) hG))
          have G5 : (upd k4 G (.lst (strV []))) G = some (.lst (strV [])) := upd_same
          generalize upd k4 G (.lst (strV [])) = k5 at D5 G5 e5 ⊢
          clear c1 c2 W3 L3
          walk_at "wi"
          refine ⟨_, _, rfl, ?_⟩
          walk_at "wi"
          refine ⟨show 0 ≤ 1000 by decide, fun p6 hp6 => ?_⟩
          refine r_eq_d (.lst (sql (know hp6 G5)) (dp_strs [])) (.lst (sql upd_same) (dp_strs [])) (by decide +kernel) (by decide +kernel) ?_
          rw [eqv_strL, decide_eq_true rfl]
          have D6 := know (o := .lst []) hp6 D5
          have e6 := ext_tr e5 (ext_new (o := .lst []) hp6)
          generalize upd k5 p6 (.lst []) = k6 at D6 e6 ⊢
          have hne : ns ≠ [] := fun z => split_ne (x := x) (by rw [hws, r.1, z]; rfl)
          obtain ⟨l, m, em⟩ := last_of hne
          have hlast := last_max r.2.2 (m := m) (by rw [em]; simp)
          have em2 : natV ns = natV l ++ [V.int m] := by rw [em]; unfold natV; rw [List.map_append]; rfl
          walk_at "wi"
          refine r_ixL D6 (by rw [em2]; exact atI_last _ _) ?_
          walk_at "wi"
          by_cases hm : m < 399
          · rw [decide_eq_true (show (m : Int) < 399 by omega)]
            exact hy (fin_isL hws ⟨r, hne, fun z hz => Nat.lt_of_le_of_lt (hlast.2 z hz) hm⟩) k6 e6 0
          · rw [decide_eq_false (show ¬ (m : Int) < 399 by omega)]
            refine hn' (fun z => ?_) k6 e6 0
            obtain ⟨ns', q⟩ := fin_of hb hws hn z
            obtain rfl := q.1.uniq r
            exact hm (q.2.2 m hlast.1)
        · walk_at "wi"
          refine r_slL (e4 _ _ W3) fun G hG => ?_
          walk_at "wi"
          refine ⟨_, _, rfl, ?_⟩
          walk_at "wi"
          refine hn' (fun z => ?_) _ (ext_tr e3 (ext_tr e4 (ext_new hG))) 0
          obtain ⟨ns, q⟩ := fin_of hb hws hn z
          exact no ⟨ns, q.1⟩
end

end NN

namespace NN
open PySem PySem.Spec PyProof.Rows L2 LamX AW ClX
-- a stay that is known
local macro_rules | `(tactic| walk_at "st") => `(tactic| first
  | assumption
  | ((with_reducible refine' StayAt.ext ?h1 ?h2); (case h1 => assumption); (case h2 => walk_at "st"))
  | ((with_reducible refine' StayAt.ext ?h1 ?h2); (case h1 => exact ext_new (by assumption)); (case h2 => walk_at "st")))
local macro_rules | `(tactic| walk_at "w2") => `(tactic| first
  | ((with_reducible refine' w_first ?h1 ?h2 ?h3 ?h4 ?_); (case h3 => rfl); (case h4 => walk_at "st"); (case h1 => assumption); (case h2 => assumption))
  | ((with_reducible refine' w_after ?h1 ?h2 ?h3 ?h4 ?_); (case h3 => rfl); (case h4 => walk_at "st"); (case h1 => assumption); (case h2 => assumption))
  | ((with_reducible refine' w_nights ?h1 ?h2 ?h3 ?h4 ?_); (case h3 => rfl); (case h4 => walk_at "st"); (case h1 => assumption); (case h2 => assumption)))
local macro_rules | `(tactic| walk_at "w") => `(tactic| repeat (first | walk_at "w1" | walk_at "w2" | dsimp only))
local macro_rules | `(tactic| walk_at "wi") => `(tactic| repeat (first | walk_at "w1" | walk_at "w2" | with_reducible refine' s_if ?_ | dsimp only))

open Tx1 Ln
/-! ### texts bent -/
def AscL (m : Nat) (x : Str) : Prop := (∀ c ∈ TL.tl x, c < 128) ∧ x.length ≤ m
theorem app_asc {a b : Nat} {x y : Str} (h : AscL a x) (k : AscL b y) : AscL (a + b) (x ++ y) := by
  refine ⟨fun c hc => ?_, by rw [PySem.Str.length_append]; have := h.2; have := k.2; omega⟩
  rw [TL.tl_append] at hc
  rcases List.mem_append.1 hc with z | z
  · exact h.1 c z
  · exact k.1 c z
theorem AscL.up {a b : Nat} {x : Str} (h : AscL a x) (l : a ≤ b) : AscL b x := ⟨h.1, Nat.le_trans h.2 l⟩
theorem join_len : ∀ ws : List Str, (Txt.join Tx1.spS ws).length ≤ (ws.map (·.length)).sum + ws.length
  | [] => by rw [TL.join_eq]; exact Nat.zero_le _
  | [x] => by rw [TL.join_eq]; show x.length ≤ _; simp
  | x :: y :: r => by
    have ih := join_len (y :: r)
    rw [TL.join_eq] at ih ⊢
    show (x ++ Tx1.spS ++ Str.join Tx1.spS (y :: r)).length ≤ _
    rw [PySem.Str.length_append, PySem.Str.length_append]
    have hs : Tx1.spS.length = 1 := rfl
    rw [hs]
    simp only [List.map_cons, List.sum_cons, List.length_cons] at ih ⊢
    omega

def Wt (ws : List Str) : Nat := (ws.map (·.length)).sum + ws.length
theorem Wt_app (a b : List Str) : Wt (a ++ b) = Wt a + Wt b := by
  unfold Wt
  rw [List.map_append, List.sum_append, List.length_append]
  omega
theorem Wt_take (n : Nat) (a : List Str) : Wt (a.take n) ≤ Wt a := by
  have e := Wt_app (a.take n) (a.drop n)
  rw [List.take_append_drop] at e
  omega
theorem Wt_drop (n : Nat) (a : List Str) : Wt (a.drop n) ≤ Wt a := by
  have e := Wt_app (a.take n) (a.drop n)
  rw [List.take_append_drop] at e
  omega
theorem Wt_rev : ∀ a : List Str, Wt a.reverse = Wt a
  | [] => rfl
  | x :: a => by
    rw [List.reverse_cons, Wt_app, Wt_rev a, ← List.singleton_append (l := a), Wt_app]
    omega
theorem join_sub : ∀ (ws : List Str) (c : Nat), c ∈ TL.tl (Txt.join Tx1.spS ws) → c = 32 ∨ ∃ w ∈ ws, c ∈ TL.tl w
  | [], c, h => by
    rw [TL.join_eq] at h
    exact absurd h (by simp [TL.tl, Str.join, Str.empty])
  | [x], c, h => by
    rw [TL.join_eq] at h
    exact .inr ⟨x, .head _, h⟩
  | x :: y :: r, c, h => by
    have ih := join_sub (y :: r) c
    rw [TL.join_eq] at ih h
    have h : c ∈ TL.tl (x ++ Tx1.spS ++ Str.join Tx1.spS (y :: r)) := h
    rw [TL.tl_append, TL.tl_append, List.mem_append, List.mem_append] at h
    rcases h with (h | h) | h
    · exact .inr ⟨x, .head _, h⟩
    · exact .inl (List.mem_singleton.1 h)
    · rcases ih h with z | ⟨w, hw, z⟩
      · exact .inl z
      · exact .inr ⟨w, .tail _ hw, z⟩
structure WL (m : Nat) (ws : List Str) : Prop where
  asc : ∀ w ∈ ws, ∀ c ∈ TL.tl w, c < 128
  wt : Wt ws ≤ m
theorem WL.app {a b : Nat} {x y : List Str} (h : WL a x) (k : WL b y) : WL (a + b) (x ++ y) :=
  ⟨fun w hw => (List.mem_append.1 hw).elim (h.asc w) (k.asc w), by rw [Wt_app]; have := h.wt; have := k.wt; omega⟩
theorem WL.take {a n : Nat} {x : List Str} (h : WL a x) : WL a (x.take n) := ⟨fun w hw => h.asc w (List.mem_of_mem_take hw), Nat.le_trans (Wt_take n x) h.wt⟩
theorem WL.drop {a n : Nat} {x : List Str} (h : WL a x) : WL a (x.drop n) := ⟨fun w hw => h.asc w (List.mem_of_mem_drop hw), Nat.le_trans (Wt_drop n x) h.wt⟩
theorem WL.rev {a : Nat} {x : List Str} (h : WL a x) : WL a x.reverse := ⟨fun w hw => h.asc w (List.mem_reverse.1 hw), by rw [Wt_rev]; exact h.wt⟩
theorem WL.one {a : Nat} {x : Str} (h : AscL a x) : WL (a + 1) [x] := ⟨fun w hw => by rw [List.mem_singleton.1 hw]; exact h.1, by have := h.2; simp [Wt]; omega⟩
theorem WL.join {a : Nat} {x : List Str} (h : WL a x) : AscL a (Txt.join Tx1.spS x) :=
  ⟨fun c hc => (join_sub x c hc).elim (fun e => by omega) fun ⟨w, hw, z⟩ => h.asc w hw c z, Nat.le_trans (join_len x) h.wt⟩
theorem WL.sum {a : Nat} {x : List Str} (h : WL a x) : (x.map (·.length)).sum + x.length * Tx1.spS.length ≤ a := by
  have hs : Tx1.spS.length = 1 := rfl
  have := h.wt
  rw [hs, Nat.mul_one]
  exact this
theorem WL.len {a : Nat} {x : List Str} (h : WL a x) : x.length ≤ a := by have := h.wt; unfold Wt at this; omega
theorem split_WL {x : Str} {m : Nat} (h : AscL m x) : WL (m + 1) (Txt.split x Tx1.spS) :=
  ⟨fun w hw c hc => h.1 c (split_sub hw c hc), by have := split_weight x Tx1.spS (by decide); have := h.2; unfold Wt; omega⟩
def some15 : List Str := ["", "0", "1", "2", "7", "10", "398", "399", "400", "01", "-1", "+1", "from", "by", "at", "none", "x", "1.0"]
def some3 : List Str := ["1_0", "from 0 by 1 at 0", "1000", " ", "\n", "8"]
def some5 : List Str := [" ", "\n", " 1", " none", "  0"]
theorem some_asc : ∀ s ∈ some15 ++ some3 ++ some5, AscL 16 s := by
  have h : ((some15 ++ some3 ++ some5).all fun s => (TL.tl s).all (fun c => decide (c < 128)) && decide (s.length ≤ 16)) = true := by decide +kernel
  intro s hs
  have := List.all_eq_true.1 h s hs
  simp only [Bool.and_eq_true, decide_eq_true_eq, List.all_eq_true] at this
  exact this
def bBent : List V → Hp → AK → AXK → Prop := fun vs kn Q _ => ∃ x : Str, vs = [.str x] ∧ AscL 200 x ∧ ∀ y k', Ext kn k' → AscL (3 * x.length + 20) y → Q (.str y) k'
theorem mo_bent : MonoX bBent := by
  rintro vs kn Q R E F h1 h2 ⟨x, a, b, d⟩
  exact ⟨x, a, b, fun y k z1 z2 => h1 _ _ (d y k z1 z2)⟩
section
variable {c : Cw} {kn : Hp} {n : Nat} {σ : L2.St} {Q : V → Hp → Nat → Prop} {K : PySem.W.Frag}
/-- a list's part, before and behind -/
theorem r_to {p : Addr} {ws : List Str} {m : Nat} (h : kn p = some (.lst (strV ws))) (q : ∀ l, kn l = none → Q (.ref l) (upd kn l (.lst (strV (ws.take m)))) n) : W c (rSlL K (.ref p) none (some ((m : Nat) : Int))) kn n Q := by
  refine r_slL h fun l hl => ?_
  rw [cut_hi, ← List.map_take]
  exact q l hl
theorem r_from {p : Addr} {ws : List Str} {m : Nat} (h : kn p = some (.lst (strV ws))) (q : ∀ l, kn l = none → Q (.ref l) (upd kn l (.lst (strV (ws.drop m)))) n) : W c (rSlL K (.ref p) (some ((m : Nat) : Int)) none) kn n Q := by
  refine r_slL h fun l hl => ?_
  rw [cut_lo, ← List.map_drop]
  exact q l hl
theorem r_catS {l b : Addr} {xs zs : List Str} (h1 : kn l = some (.lst (strV xs))) (h2 : kn b = some (.lst (strV zs))) (hz : xs.length + zs.length ≤ 1000) (q : ∀ p, kn p = none → Q (.ref p) (upd kn p (.lst (strV (xs ++ zs)))) n) : W c (rCat (.ref l) (.ref b)) kn n Q := by
  refine r_cat h1 h2 (by rw [List.length_map, List.length_map]; exact hz) fun p hp => ?_
  rw [← List.map_append]
  exact q p hp
theorem r_joinS {p : Addr} {ys : List Str} {m : Nat} (w : WL m ys) (hm : m ≤ 10000) (h : kn p = some (.lst (strV ys))) (q : AscL m (Txt.join Tx1.spS ys) → Q (.str (Txt.join Tx1.spS ys)) kn n) : W c (rJoinQ K (.str Tx1.spS) [.ref p]) kn n Q :=
  r_joinQ h (Nat.le_trans w.sum (by omega)) (q w.join)
end
section
variable {P : Program} {w : World} {K : PySem.W.Frag} {mg : Str → Option Value} {base : Heap}
def tabsT {K : PySem.W.Frag} {mg : Str → Option Value} (T : Tx K mg) : List (Addr × Str) := [(T.tp_law, "law.<locals>.<lambda>")]
theorem ok__law_bent (T : Tx K mg) (TT : List (Addr × Str)) : FnOk P w K mg base CX0 3 T.f__law_bent T.d__law_bent ["pen", "line"] (liftP (tabsT T) 4 bBent) := by
  refine T.F__law_bent.ok sc__law_bent (fun vs H Q E h => ?_) (fun cdv A outer s H vs Q E hr h => ?_)
  · obtain ⟨p, a, ns, n, kn, ws, rfl, _, _, x, rfl, _⟩ := h
    rfl
  · obtain ⟨p, a, ns, n, kn, ws, rfl, g, hn, x, rfl, ax, h⟩ := h
    refine ⟨_, (pss_cons (ps_par (i := 2) (j := 3) (by rfl) sc__law_bent.nd rfl rfl (by decide) rfl rfl (pa_cons (pe_splitQ (pv 1) pe_str) (pa_cons (pe_call (ok__law_draw T) (hr.mono (by decide)) (by rfl) T.g__law_draw T.F__law_draw.kp T.bd__law_draw .nil pass0 (pa_cons (pv 0) (pa_cons pe_int pa_nil))) pa_nil)) (by rfl))
       (pss_cons (ps_set (i := 4) sc__law_bent.nd rfl (by first | exact Or.inl rfl | exact Or.inr rfl) (pe_call (ok__law_draw T) (hr.mono (by decide)) (by rfl) T.g__law_draw T.F__law_draw.kp T.bd__law_draw .nil pass0 (pa_cons (pv 0) (pa_cons (pe_callB c_len (by rfl) T.b_len PySem.boot_len (pa_cons (pv 2) pa_nil)) pa_nil))))
       (pss_cons (ps_set (i := 5) sc__law_bent.nd rfl (by first | exact Or.inl rfl | exact Or.inr rfl) (pe_lst (pa_cons pe_str (pa_cons pe_str (pa_cons pe_str (pa_cons pe_str (pa_cons pe_str (pa_cons pe_str (pa_cons pe_str (pa_cons pe_str (pa_cons pe_str (pa_cons pe_str (pa_cons pe_str (pa_cons pe_str (pa_cons pe_str (pa_cons pe_str (pa_cons pe_str (pa_cons pe_str (pa_cons pe_str (pa_cons pe_str pa_nil))))))))))))))))))))
       (pss_cons (ps_set (i := 6) sc__law_bent.nd rfl (by first | exact Or.inl rfl | exact Or.inr rfl) (pe_call (ok__law_pick T (tabsT T)) (hr.mono (by decide)) (by rfl) T.g__law_pick T.F__law_pick.kp T.bd__law_pick .nil pass0 (pa_cons (pv 0) (pa_cons (pe_op op_cat (pv 5) (pe_lst (pa_cons pe_str (pa_cons pe_str (pa_cons pe_str (pa_cons pe_str (pa_cons pe_str (pa_cons pe_str pa_nil)))))))) pa_nil))))
       (pss_cons (ps_if (pt_cmpR op_eq (pv 3) pe_int (nomark _))
       (pss_one (ps_ret (pe_joinQ pe_str (pe_op op_cat (pe_slice (show SlR _ (rSlL K) from sl_list) (pv 2) po_none (po_some (pv 4))) (pe_slice (show SlR _ (rSlL K) from sl_list) (pv 2) (po_some (pe_op op_add (pv 4) pe_int)) po_none)))))
       pss_nil)
       (pss_cons (ps_if (pt_cmpR op_eq (pv 3) pe_int (nomark _))
       (pss_one (ps_ret (pe_joinQ pe_str (pe_op op_cat (pe_slice (show SlR _ (rSlL K) from sl_list) (pv 2) po_none (po_some (pe_op op_add (pv 4) pe_int))) (pe_slice (show SlR _ (rSlL K) from sl_list) (pv 2) (po_some (pv 4)) po_none)))))
       pss_nil)
       (pss_cons (ps_if (pt_cmpR op_eq (pv 3) pe_int (nomark _))
       (pss_one (ps_ret (pe_op op_addT (pv 1) (pe_call (ok__law_pick T (tabsT T)) (hr.mono (by decide)) (by rfl) T.g__law_pick T.F__law_pick.kp T.bd__law_pick .nil pass0 (pa_cons (pv 0) (pa_cons (pe_lst (pa_cons pe_str (pa_cons pe_str (pa_cons pe_str (pa_cons pe_str (pa_cons pe_str pa_nil)))))) pa_nil))))))
       pss_nil)
       (pss_cons (ps_if (pt_cmpR op_eq (pv 3) pe_int (nomark _))
       (pss_one (ps_ret (pe_joinQ pe_str (pe_op op_cat (pe_op op_cat (pe_slice (show SlR _ (rSlL K) from sl_list) (pv 2) po_none (po_some (pv 4))) (pe_lst (pa_cons (pv 6) pa_nil))) (pe_slice (show SlR _ (rSlL K) from sl_list) (pv 2) (po_some (pv 4)) po_none)))))
       pss_nil)
       (pss_cons (ps_if (pt_cmpR op_eq (pv 3) pe_int (nomark _))
       (pss_one (ps_ret (pe_joinQ pe_str (pe_op op_cat (pe_op op_cat (pe_slice (show SlR _ (rSlL K) from sl_list) (pv 2) po_none (po_some (pv 4))) (pe_revL (pe_slice (show SlR _ (rSlL K) from sl_list) (pe_slice (show SlR _ (rSlL K) from sl_list) (pv 2) (po_some (pv 4)) po_none) po_none (po_some pe_int)))) (pe_slice (show SlR _ (rSlL K) from sl_list) (pv 2) (po_some (pe_op op_add (pv 4) pe_int)) po_none)))))
       pss_nil)
       (pss_one (ps_ret (pe_joinQ pe_str (pe_op op_cat (pe_op op_cat (pe_slice (show SlR _ (rSlL K) from sl_list) (pv 2) po_none (po_some (pv 4))) (pe_lst (pa_cons (pv 6) pa_nil))) (pe_slice (show SlR _ (rSlL K) from sl_list) (pv 2) (po_some (pe_op op_add (pv 4) pe_int)) po_none)))))))))))))), ?_⟩
    refine body_of g ?_
    have lx := ax.2
    walk_at "w"
    refine w_m1 ?_
    walk_at "w"
    refine ⟨⟨_, rfl⟩, ?_⟩
    walk_at "w"
    rw [sp_eq]
    refine r_split (by decide) (by omega) fun l hl => ?_
    obtain ⟨ws, hws⟩ : ∃ ws, ws = Txt.split x Tx1.spS := ⟨_, rfl⟩
    have wl : WL (x.length + 1) ws := by rw [hws]; exact split_WL ⟨ax.1, Nat.le_refl _⟩
    have wpos : 1 ≤ ws.length := by rw [hws]; exact split_pos _ _
    rw [← hws]
    have e1 : Ext kn (upd kn l (.lst (strV ws))) := ext_new hl
    have l1 : (upd kn l (.lst (strV ws))) l = some (.lst (strV ws)) := upd_same
    show W _ _ (upd kn l (.lst (strV ws))) _ _
    generalize upd kn l (.lst (strV ws)) = k1 at e1 l1 ⊢
    have wlen := wl.len
    walk_at "w"
    refine w_draw ?_
    walk_at "w"
    refine ⟨by omega, by decide, by decide, fun way y0 y1 => ?_⟩
    walk_at "w"
    refine ⟨_, _, rfl, ?_⟩
    walk_at "w"
    refine w_draw ?_
    walk_at "w"
    rw [List.length_map]
    refine ⟨by omega, by omega, by omega, fun at_ t0 t1 => ?_⟩
    obtain ⟨m, rfl⟩ : ∃ m : Nat, at_ = m := ⟨at_.toNat, by omega⟩
    walk_at "w"
    refine ⟨show 18 ≤ 1000 by decide, fun q hq => ?_⟩
    have e2 : Ext kn (upd k1 q (.lst (strV some15))) := ext_tr e1 (ext_new hq)
    have l2 : (upd k1 q (.lst (strV some15))) l = some (.lst (strV ws)) := know hq l1
    have q2 : (upd k1 q (.lst (strV some15))) q = some (.lst (strV some15)) := upd_same
    refine (fun (k2 : Hp) (e2 : Ext kn k2) (l2 : k2 l = some (.lst (strV ws))) (q2 : k2 q = some (.lst (strV some15))) => ?_ : ∀ k2, Ext kn k2 → k2 l = some (.lst (strV ws)) → k2 q = some (.lst (strV some15)) → WS _ _ _ _ k2 _) _ e2 l2 q2
    clear hq l1 e1
    walk_at "w"
    refine w_callP mo_pick err_no ?_
    walk_at "w"
    refine ⟨show 6 ≤ 1000 by decide, fun q3 hq3 => ?_⟩
    have l3 := know (o := .lst (strV some3)) hq3 l2
    have e3 := ext_tr e2 (ext_new (o := .lst (strV some3)) hq3)
    refine r_catS (zs := some3) (know hq3 q2) upd_same (by decide) fun q4 hq4 => ?_
    have l4 := know (o := .lst (strV (some15 ++ some3))) hq4 l3
    have e4 := ext_tr e3 (ext_new (o := .lst (strV (some15 ++ some3))) hq4)
    walk_at "w"
    refine ⟨by omega, _, strV (some15 ++ some3), rfl, upd_same, by decide, by decide, fun v hv => ?_⟩
    obtain ⟨wd, hwd, rfl⟩ := List.mem_map.1 hv
    have aw : AscL 16 wd := some_asc wd (List.mem_append.2 (.inl hwd))
    refine (fun (k5 : Hp) (e5 : Ext kn k5) (l5 : k5 l = some (.lst (strV ws))) => ?_ : ∀ k5, Ext kn k5 → k5 l = some (.lst (strV ws)) → WS _ _ _ _ k5 _) _ e4 l4
    clear e2 l2 q2 e3 l3 e4 l4 hq3 hq4 hv hwd
    have fin : ∀ y k', Ext kn k' → AscL (3 * x.length + 20) y → ∀ n', n' ≤ n + 4 → ∀ H', Good (penC p a ns (tabsT T)) k' n' H' → Q (.str y) H' := fun y k' e' ay n' hn' H' g' => h y k' e' ay H' (g'.up hn')
    have two : ∀ {ys : List Str} {b : Nat}, WL b ys → b ≤ 3 * x.length + 20 → ∀ {k' : Hp} {r : Addr}, Ext kn k' → k' r = some (.lst (strV ys)) → ∀ n', n' ≤ n + 4 → W (penC p a ns (tabsT T)) (rJoinQ K (.str Tx1.spS) [.ref r]) k' n' fun v kn' n'' => ∀ H', Good (penC p a ns (tabsT T)) kn' n'' H' → Q v H' := fun {ys b} hw hb {k' r} e' hr' n' hn' => r_joinS hw (by omega) hr' fun ay => fin _ k' e' (ay.up hb) n' hn'
    walk_at "wi"
    refine ⟨fun _ => ?_, fun _ => ?_⟩
    · walk_at "wi"
      refine w_m1 ?_
      walk_at "w"
      refine ⟨⟨_, rfl⟩, ?_⟩
      walk_at "w"
      refine r_to l5 fun a1 h1 => ?_
      walk_at "w"
      refine r_from (m := m + 1) (know h1 l5) fun a2 h2 => ?_
      refine r_catS (know h2 upd_same) upd_same (by have := (wl.take (n := m)).len; have := (wl.drop (n := m + 1)).len; omega) fun a3 h3 => ?_
      walk_at "w"
      exact two (wl.take.app wl.drop) (by omega) (ext_tr e5 (ext_tr (ext_new h1) (ext_tr (ext_new h2) (ext_new h3)))) upd_same _ (by omega)
    · skip
      walk_at "wi"
      refine ⟨fun _ => ?_, fun _ => ?_⟩
      · walk_at "wi"
        refine w_m1 ?_
        walk_at "w"
        refine ⟨⟨_, rfl⟩, ?_⟩
        walk_at "w"
        refine r_to (m := m + 1) l5 fun a1 h1 => ?_
        walk_at "w"
        refine r_from (know h1 l5) fun a2 h2 => ?_
        refine r_catS (know h2 upd_same) upd_same (by have := (wl.take (n := m + 1)).len; have := (wl.drop (n := m)).len; omega) fun a3 h3 => ?_
        walk_at "w"
        exact two (wl.take.app wl.drop) (by omega) (ext_tr e5 (ext_tr (ext_new h1) (ext_tr (ext_new h2) (ext_new h3)))) upd_same _ (by omega)
      · skip
        walk_at "wi"
        refine ⟨fun _ => ?_, fun _ => ?_⟩
        · walk_at "wi"
          refine w_callP mo_pick err_no ?_
          walk_at "w"
          refine ⟨show 5 ≤ 1000 by decide, fun q hq => ?_⟩
          walk_at "w"
          refine ⟨by omega, _, strV some5, rfl, upd_same, by decide, by decide, fun v hv => ?_⟩
          obtain ⟨z, hz, rfl⟩ := List.mem_map.1 hv
          have az : AscL 16 z := some_asc z (List.mem_append.2 (.inr hz))
          have := az.2
          refine r_addT (by omega) ?_
          exact fin _ _ (ext_tr e5 (ext_new hq)) ((app_asc ⟨ax.1, Nat.le_refl x.length⟩ az).up (by omega)) _ (by omega)
        · skip
          walk_at "wi"
          refine ⟨fun _ => ?_, fun _ => ?_⟩
          · walk_at "wi"
            refine w_m1 ?_
            walk_at "w"
            refine ⟨⟨_, rfl⟩, ?_⟩
            walk_at "w"
            refine r_to l5 fun a1 h1 => ?_
            walk_at "w"
            refine ⟨show 1 ≤ 1000 by decide, fun a2 h2 => ?_⟩
            refine r_catS (zs := [wd]) (know h2 upd_same) upd_same (by have := (wl.take (n := m)).len; show _ + 1 ≤ _; omega) fun a3 h3 => ?_
            walk_at "w"
            refine r_from (know h3 (know h2 (know h1 l5))) fun a4 h4 => ?_
            refine r_catS (know h4 upd_same) upd_same (by have := (wl.take (n := m)).len; have := (wl.drop (n := m)).len; rw [List.length_append]; show _ + 1 + _ ≤ _; omega) fun a5 h5 => ?_
            walk_at "w"
            exact two ((wl.take.app (.one aw)).app wl.drop) (by omega) (ext_tr e5 (ext_tr (ext_new h1) (ext_tr (ext_new h2) (ext_tr (ext_new h3) (ext_tr (ext_new h4) (ext_new h5)))))) upd_same _ (by omega)
          · skip
            walk_at "wi"
            refine ⟨fun _ => ?_, fun _ => ?_⟩
            · walk_at "wi"
              refine w_m1 ?_
              walk_at "w"
              refine ⟨⟨_, rfl⟩, ?_⟩
              walk_at "w"
              refine r_to l5 fun a1 h1 => ?_
              walk_at "w"
              refine w_revL ?_
              walk_at "w"
              refine r_from (know h1 l5) fun a2 h2 => ?_
              walk_at "w"
              refine r_to (m := 2) upd_same fun a3 h3 => ?_
              refine ⟨a3, _, rfl, upd_same, fun a4 h4 => ?_⟩
              rw [← List.map_reverse]
              refine r_catS (zs := ((ws.drop m).take 2).reverse) (know h4 (know h3 (know h2 upd_same))) upd_same (by have := (wl.take (n := m)).len; have := ((wl.drop (n := m)).take (n := 2)).rev.len; omega) fun a5 h5 => ?_
              walk_at "w"
              refine r_from (m := m + 2) (know h5 (know h4 (know h3 (know h2 (know h1 l5))))) fun a6 h6 => ?_
              refine r_catS (know h6 upd_same) upd_same (by have := (wl.take (n := m)).len; have := ((wl.drop (n := m)).take (n := 2)).rev.len; have := (wl.drop (n := m + 2)).len; rw [List.length_append]; omega) fun a7 h7 => ?_
              walk_at "w"
              exact two ((wl.take.app wl.drop.take.rev).app wl.drop) (by omega) (ext_tr e5 (ext_tr (ext_new h1) (ext_tr (ext_new h2) (ext_tr (ext_new h3) (ext_tr (ext_new h4) (ext_tr (ext_new h5) (ext_tr (ext_new h6) (ext_new h7)))))))) upd_same _ (by omega)
            · skip
              walk_at "wi"
              refine w_m1 ?_
              walk_at "w"
              refine ⟨⟨_, rfl⟩, ?_⟩
              walk_at "w"
              refine r_to l5 fun a1 h1 => ?_
              walk_at "w"
              refine ⟨show 1 ≤ 1000 by decide, fun a2 h2 => ?_⟩
              refine r_catS (zs := [wd]) (know h2 upd_same) upd_same (by have := (wl.take (n := m)).len; show _ + 1 ≤ _; omega) fun a3 h3 => ?_
              walk_at "w"
              refine r_from (m := m + 1) (know h3 (know h2 (know h1 l5))) fun a4 h4 => ?_
              refine r_catS (know h4 upd_same) upd_same (by have := (wl.take (n := m)).len; have := (wl.drop (n := m + 1)).len; rw [List.length_append]; show _ + 1 + _ ≤ _; omega) fun a5 h5 => ?_
              walk_at "w"
              exact two ((wl.take.app (.one aw)).app wl.drop) (by omega) (ext_tr e5 (ext_tr (ext_new h1) (ext_tr (ext_new h2) (ext_tr (ext_new h3) (ext_tr (ext_new h4) (ext_new h5)))))) upd_same _ (by omega)
end

end NN

namespace NN
open PySem PySem.Spec PyProof.Rows L2 LamX AW ClX
-- a stay that is known
local macro_rules | `(tactic| walk_at "st") => `(tactic| first
  | assumption
  | ((with_reducible refine' StayAt.ext ?h1 ?h2); (case h1 => assumption); (case h2 => walk_at "st"))
  | ((with_reducible refine' StayAt.ext ?h1 ?h2); (case h1 => exact ext_new (by assumption)); (case h2 => walk_at "st")))
local macro_rules | `(tactic| walk_at "w2") => `(tactic| first
  | ((with_reducible refine' w_first ?h1 ?h2 ?h3 ?h4 ?_); (case h3 => rfl); (case h4 => walk_at "st"); (case h1 => assumption); (case h2 => assumption))
  | ((with_reducible refine' w_after ?h1 ?h2 ?h3 ?h4 ?_); (case h3 => rfl); (case h4 => walk_at "st"); (case h1 => assumption); (case h2 => assumption))
  | ((with_reducible refine' w_nights ?h1 ?h2 ?h3 ?h4 ?_); (case h3 => rfl); (case h4 => walk_at "st"); (case h1 => assumption); (case h2 => assumption)))
local macro_rules | `(tactic| walk_at "w") => `(tactic| repeat (first | walk_at "w1" | walk_at "w2" | dsimp only))
local macro_rules | `(tactic| walk_at "wi") => `(tactic| repeat (first | walk_at "w1" | walk_at "w2" | with_reducible refine' s_if ?_ | dsimp only))

open Tx1 Ln
/-! ### a line drawn -/
theorem nS_two {m : Nat} (h : m < 12) : (nS m).length ≤ 2 := by
  have : (List.range 12).all (fun m => decide ((nS m).length ≤ 2)) = true := by decide +kernel
  exact of_decide_eq_true (List.all_eq_true.1 this m (List.mem_range.2 h))
theorem nS_WL {ys : List Nat} (h : ∀ m ∈ ys, m < 12) {b : Nat} (hb : ys.length ≤ b) : WL (3 * b) (ys.map nS) := by
  refine ⟨fun w hw => ?_, ?_⟩
  · obtain ⟨m, hm, rfl⟩ := List.mem_map.1 hw
    exact (nS_asc (by have := h m hm; omega)).1
  · have := sum_le (f := fun x : Str => x.length) (m := 2) (l := ys.map nS) (fun w hw => by
      obtain ⟨m, hm, rfl⟩ := List.mem_map.1 hw
      exact nS_two (h m hm))
    unfold Wt
    rw [List.length_map] at this ⊢
    omega
section
/-- [n for n in range(..) if draw(pen, many) == 0] -/
theorem w_lcDraw {p a : Addr} {ns : List Int} {TT : List (Addr × Str)} {kn : Hp} {n : Nat} {σ : L2.St} {Q : V → Hp → Nat → Prop} {s jp m : Nat} {many : Int} {ta : TA}
    (hta : ∀ R : List V → Hp → Nat → Prop, R [.int (s : Int)] kn n → W (penC p a ns TT) (ta σ) kn n R) (h1 : ∀ v : V, ((wipe σ [m]).set m (some v))[jp]? = some (some (.ref p))) (h6 : ∀ v : V, ((wipe σ [m]).set m (some v))[m]? = some (some v)) (hw : ∀ v : V, wipe ((wipe σ [m]).set m (some v)) [m] = wipe σ [m])
    (m1 : 0 < many) (m2 : many ≤ 1000000) (hs : s ≤ 100) (hn : n + s + 1 < 1000000)
    (h : ∀ (D : Addr) (ys : List Nat) (n' : Nat), kn D = none → (∀ y ∈ ys, y < s) → ys.length ≤ s → n' ≤ n + s → Q (.ref D) (upd kn D (.lst (natV ys))) n') :
    W (penC p a ns TT) (tLc (iRng1 ta) (gName m) (tTest (tOp rEq (tCall spDraw [] E0 (tCons (tVar jp) (tCons (tC (.int many)) tNil))) (tC (.int 0)))) (tVar m) [m] σ) kn n Q := by
  refine w_lc (i_rng1 (hta _ ⟨_, rfl, by omega, by omega, ?_⟩))
  rw [Int.toNat_natCast]
  refine ⟨_, (fun _ => True), fun D i acc k m => k = upd kn D (.lst acc) ∧ kn D = none ∧ m ≤ n + i ∧ i ≤ s ∧ ∃ ys : List Nat, acc = (ys.map fun (i : Nat) => V.int i) ∧ ys.length ≤ i ∧ ∀ y ∈ ys, y < s, gives_rng, by rw [List.length_map, List.length_range]; omega, fun D hD => ⟨rfl, hD, by omega, by omega, [], rfl, Nat.le_refl 0, fun y hy => (by cases hy)⟩, ?_, ?_, ?_⟩
  · rintro D i acc k m ⟨rfl, hD, _, _, ys, rfl, hl, _⟩
    exact ⟨trivial, upd_same, by rw [List.length_map]; exact hl⟩
  · rintro D i acc x k m hx ⟨rfl, hD, hm, _, ys, rfl, hl, hy⟩
    have hi : i < s := by
      have := (List.getElem?_eq_some_iff.1 hx).1
      rw [List.length_map, List.length_range] at this
      exact this
    obtain rfl : x = V.int (i : Int) := by
      rw [List.getElem?_map, List.getElem?_range hi] at hx
      rw [← Option.some.inj hx]
      exact congrArg V.int (show (0 : Int) + ((i : Nat) : Int) = ((i : Nat) : Int) by omega)
    refine g_name ⟨hw _, w_test (w_op (w_draw (w_cons (w_var (h1 _) (w_cons (w_c (w_nil ⟨many, rfl, by omega, m1, by omega, fun k2 k20 k21 => w_c (r_eq rfl ⟨_, rfl, fun _ => ?_, fun _ => ?_⟩)⟩)))))))⟩
    · refine w_var (h6 _) ⟨upd_same, ?_, hD, by omega, by omega, ys ++ [i], by rw [List.map_append]; rfl, by rw [List.length_append]; show _ + 1 ≤ _; omega, fun y hy2 => ?_⟩
      · funext b
        by_cases hb : b = D
        · rw [hb, upd_same, upd_same]
        · rw [upd_ne hb, upd_ne hb, upd_ne hb]
      · rcases List.mem_append.1 hy2 with z | z
        · exact hy y z
        · rw [List.mem_singleton.1 z]
          exact hi
    · exact ⟨rfl, hD, by omega, by omega, ys, rfl, by omega, hy⟩
  · rintro D acc k m ⟨rfl, hD, hm, hs2, ys, rfl, hl, hy⟩
    rw [List.length_map, List.length_range] at hm hl
    exact h D ys m hD hy (by omega) (by omega)
variable {c : Cw} {kn : Hp} {n : Nat} {σ : L2.St} {Q : V → Hp → Nat → Prop} {K : PySem.W.Frag}
/-- [str(n) for n in a list of numbers] -/
theorem w_strsL {te : TE} {i : Nat} {xs : List Nat} {q : Addr} (hte : ∀ R : V → Hp → Nat → Prop, R (.ref q) kn n → W c (te σ) kn n R) (hq : kn q = some (.lst (natV xs))) (hl : xs.length ≤ 1000) (hx : ∀ m ∈ xs, m ≤ 1000)
    (hi : ∀ v : V, ((wipe σ [i]).set i (some v))[i]? = some (some v)) (hw : ∀ v : V, wipe ((wipe σ [i]).set i (some v)) [i] = wipe σ [i])
    (h : ∀ D, kn D = none → Q (.ref D) (upd kn D (.lst (strV (xs.map nS)))) n) : W c (tLc (iList K te) (gName i) tYes (tCB rStrI (tCons (tVar i) tNil)) [i] σ) kn n Q := by
  refine w_lcP (i_list (hte _ ⟨q, _, rfl, hq, ?_⟩))
  refine ⟨_, _, fStr, fun _ => true, gives_lst, by rw [List.length_map]; omega, fun k e => e _ _ hq, fun x hx2 k ek => ?_, fun D hD => ?_⟩
  · obtain ⟨m, hm, rfl⟩ := List.mem_map.1 hx2
    have := hx m hm
    refine g_name ⟨rfl, rfl, hw _, w_yesT ⟨rfl, rfl, rfl, fun _ => ?_⟩⟩
    exact w_cb (w_cons (w_var (hi _) (w_nil (r_strI (log_small (by omega) (by omega)) ⟨rfl, rfl, rfl⟩))))
  · rw [map_fStr]
    exact h D hD
end
theorem le_sum {s : Str} : ∀ {l : List Str}, s ∈ l → s.length ≤ (l.map (fun x : Str => x.length)).sum
  | a :: l, h => by
    rw [List.map_cons, List.sum_cons]
    rcases List.mem_cons.1 h with rfl | h
    · exact Nat.le_add_right _ _
    · exact Nat.le_trans (le_sum h) (Nat.le_add_left _ _)
def bLine : List V → Hp → AK → AXK → Prop := fun vs kn Q _ => vs = [] ∧ ∀ y k', Ext kn k' → AscL 60 y → Q (.str y) k'
theorem mo_line : MonoX bLine := by
  rintro vs kn Q R E F h1 h2 ⟨b, d⟩
  exact ⟨b, fun y k z1 z2 => h1 _ _ (d y k z1 z2)⟩
section
variable {P : Program} {w : World} {K : PySem.W.Frag} {mg : Str → Option Value} {base : Heap}
theorem ok__law_line (T : Tx K mg) (TT : List (Addr × Str)) : FnOk P w K mg base CX0 2 T.f__law_line T.d__law_line ["pen"] (liftP (tabsT T) 20 bLine) := by
  refine T.F__law_line.ok sc__law_line (fun vs H Q E h => ?_) (fun cdv A outer s H vs Q E hr h => ?_)
  · obtain ⟨p, a, ns, n, kn, ws, rfl, _, _, rfl, _⟩ := h
    rfl
  · obtain ⟨p, a, ns, n, kn, ws, rfl, g, hn, rfl, h⟩ := h
    refine ⟨_, (pss_cons (ps_setLc (i := 1) (own := [("n", 2)]) (g := gName 2) (by rfl) sc__law_line.nd rfl rfl (sw_true rfl rfl rfl (by decide +kernel)) (pi_range1 (by rfl) T.b_range (pa_cons pe_int pa_nil)) (blkOk_by (own := [("n", 2)]) (N := ["pen", "low", "n", "head", "size", "over", "rest", "words"]) (sc := defScope s__law_line) (by decide +kernel)) (fun _ _ _ _ _ => pg_name (i := 2) sc__law_line.nd rfl (Or.inl rfl)) (fun _ _ _ _ _ => (pts_one (pt_cmpR op_eq (pe_call (ok__law_draw T) (hr.mono (by decide)) (by rfl) T.g__law_draw T.F__law_draw.kp T.bd__law_draw .nil pass0 (pa_cons (pv 0) (pa_cons pe_int pa_nil))) pe_int (nomark _)))) (fun _ _ _ _ _ => (pv 2)))
       (pss_cons (ps_par (i := 3) (j := 4) (by rfl) sc__law_line.nd rfl rfl (by decide) rfl rfl (pa_cons (pe_op op_add pe_int (pe_call (ok__law_draw T) (hr.mono (by decide)) (by rfl) T.g__law_draw T.F__law_draw.kp T.bd__law_draw .nil pass0 (pa_cons (pv 0) (pa_cons pe_int pa_nil)))) (pa_cons (pe_op op_add pe_int (pe_call (ok__law_draw T) (hr.mono (by decide)) (by rfl) T.g__law_draw T.F__law_draw.kp T.bd__law_draw .nil pass0 (pa_cons (pv 0) (pa_cons pe_int pa_nil)))) pa_nil)) (by rfl))
       (pss_cons (ps_setLc (i := 5) (own := [("rest", 6)]) (g := gName 6) (by rfl) sc__law_line.nd rfl rfl (sw_true rfl rfl rfl (by decide +kernel)) (pi_range1 (by rfl) T.b_range (pa_cons (pv 4) pa_nil)) (blkOk_by (own := [("rest", 6)]) (N := ["pen", "low", "n", "head", "size", "over", "rest", "words"]) (sc := defScope s__law_line) (by decide +kernel)) (fun _ _ _ _ _ => pg_name (i := 6) sc__law_line.nd rfl (Or.inl rfl)) (fun _ _ _ _ _ => (pts_one (pt_cmpR op_eq (pe_call (ok__law_draw T) (hr.mono (by decide)) (by rfl) T.g__law_draw T.F__law_draw.kp T.bd__law_draw .nil pass0 (pa_cons (pv 0) (pa_cons pe_int pa_nil))) pe_int (nomark _)))) (fun _ _ _ _ _ => (pv 6)))
       (pss_cons (ps_setLc (i := 7) (own := [("n", 2)]) (g := gName 2) (by rfl) sc__law_line.nd rfl rfl (sw_true rfl rfl rfl (by decide +kernel)) (pi_list (pv 1)) (blkOk_by (own := [("n", 2)]) (N := ["pen", "low", "n", "head", "size", "over", "rest", "words"]) (sc := defScope s__law_line) (by decide +kernel)) (fun _ _ _ _ _ => pg_name (i := 2) sc__law_line.nd rfl (Or.inl rfl)) (fun _ _ _ _ _ => pts_nil) (fun _ _ _ _ _ => (pe_callTy c_strI (by rfl) T.b_str (by decide +kernel) (pa_cons (pv 2) pa_nil))))
       (pss_cons (ps_if (pt_cmpR (op_neD hr.units) (pv 5) (pe_lst pa_nil) (nomark _))
       (pss_one (ps_set (i := 7) sc__law_line.nd rfl (by first | exact Or.inl rfl | exact Or.inr rfl) (pe_op op_cat (pe_op op_cat (pv 7) (pe_lst (pa_cons pe_str (pa_cons (pe_callTy c_strI (by rfl) T.b_str (by decide +kernel) (pa_cons (pv 3) pa_nil)) (pa_cons pe_str (pa_cons (pe_callTy c_strI (by rfl) T.b_str (by decide +kernel) (pa_cons (pv 4) pa_nil)) (pa_cons pe_str pa_nil))))))) (pe_lc (own := [("rest", 6)]) (g := gName 6) (by rfl) sc__law_line.nd (pi_list (pv 5)) (blkOk_by (own := [("rest", 6)]) (N := ["pen", "low", "n", "head", "size", "over", "rest", "words"]) (sc := defScope s__law_line) (by decide +kernel)) (fun _ _ _ _ _ => pg_name (i := 6) sc__law_line.nd rfl (Or.inl rfl)) (fun _ _ _ _ _ => pts_nil) (fun _ _ _ _ _ => (pe_callTy c_strI (by rfl) T.b_str (by decide +kernel) (pa_cons (pv 6) pa_nil)))))))
       pss_nil)
       (pss_one (ps_ret (pe_ifExp (pt_cmpR (op_neD hr.units) (pv 7) (pe_lst pa_nil) (nomark _)) (pe_joinQ pe_str (pv 7)) pe_str)))))))), ?_⟩
    refine body_of g ?_
    refine s_seq (s_set ?_)
    refine w_lcDraw (s := 8) (fun R hR => w_cons (w_c (w_nil hR))) (fun _ => rfl) (fun _ => rfl) (fun _ => rfl) (by decide) (by decide) (by decide) (by omega) fun D xs n1 hD hx lx hn1 => ?_
    have D1 : (upd kn D (.lst (natV xs))) D = some (.lst (natV xs)) := upd_same
    have e1 : Ext kn (upd kn D (.lst (natV xs))) := ext_new hD
    generalize upd kn D (.lst (natV xs)) = k1 at D1 e1 ⊢
    walk_at "wi"
    refine w_draw ?_
    walk_at "wi"
    refine ⟨by omega, by decide, by decide, fun u1 u10 u11 => ?_⟩
    walk_at "wi"
    refine w_draw ?_
    walk_at "wi"
    refine ⟨by omega, by decide, by decide, fun u2 u20 u21 => ?_⟩
    walk_at "wi"
    refine ⟨_, _, rfl, ?_⟩
    obtain ⟨hd, ehd⟩ : ∃ hd : Nat, 8 + u1 = (hd : Int) := ⟨(8 + u1).toNat, by omega⟩
    obtain ⟨sz, esz⟩ : ∃ sz : Nat, 1 + u2 = (sz : Int) := ⟨(1 + u2).toNat, by omega⟩
    rw [ehd, esz]
    have hhd : hd < 12 := by omega
    have hsz : sz ≤ 4 := by omega
    refine s_seq (s_set ?_)
    refine w_lcDraw (s := sz) (fun R hR => w_cons (w_var rfl (w_nil hR))) (fun _ => rfl) (fun _ => rfl) (fun _ => rfl) (by decide) (by decide) (by omega) (by omega) fun O ys n2 hO hy ly hn2 => ?_
    have D2 := know (o := .lst (natV ys)) hO D1
    have O2 : (upd k1 O (.lst (natV ys))) O = some (.lst (natV ys)) := upd_same
    have e2 := ext_tr e1 (ext_new (o := .lst (natV ys)) hO)
    generalize upd k1 O (.lst (natV ys)) = k2 at D2 O2 e2 ⊢
    refine s_seq (s_set ?_)
    refine w_strsL (fun R hR => w_var rfl hR) D2 (by omega) (fun m hm => by have := hx m hm; omega) (fun _ => rfl) (fun _ => rfl) fun L hL => ?_
    have O3 := know (o := .lst (strV (xs.map nS))) hL O2
    have L3 : (upd k2 L (.lst (strV (xs.map nS)))) L = some (.lst (strV (xs.map nS))) := upd_same
    have e3 := ext_tr e2 (ext_new (o := .lst (strV (xs.map nS))) hL)
    generalize upd k2 L (.lst (strV (xs.map nS))) = k3 at O3 L3 e3 ⊢
    have wx : WL 24 (xs.map nS) := nS_WL (b := 8) (fun m hm => by have := hx m hm; omega) lx
    have wy : WL 12 (ys.map nS) := nS_WL (b := 4) (fun m hm => by have := hy m hm; omega) (by omega)
    have fin : ∀ y k', Ext kn k' → AscL 60 y → ∀ n', n' ≤ n + 20 → ∀ H', Good (penC p a ns (tabsT T)) k' n' H' → Q (.str y) H' := fun y k' e' ay n' hn' H' g' => h y k' e' ay H' (g'.up hn')
    refine s_seq ?_
    refine s_join (fun σ' k' n' => n' ≤ n + 20 ∧ Ext kn k' ∧ ∃ (Dw : Addr) (y1 y2 y3 y4 y5 y6 : Option V) (zs : List Str), σ' = [some (.ref p), y1, y2, y3, y4, y5, y6, some (.ref Dw)] ∧ k' Dw = some (.lst (strV zs)) ∧ WL 56 zs) ?_ ?_
    · walk_at "wi"
      refine ⟨show 0 ≤ 1000 by decide, fun q hq => ?_⟩
      refine r_ne_d (.lst (sql (know hq O3)) (dp_nats ys)) (.lst (sql upd_same) .nil) (shaped_natL ys) (by decide +kernel) ?_
      rw [eqv_natL]
      have O4 := know (o := .lst []) hq O3
      have L4 := know (o := .lst []) hq L3
      have e4 := ext_tr e3 (ext_new (o := .lst []) hq)
      generalize upd k3 q (.lst []) = k4 at O4 L4 e4 ⊢
      walk_at "wi"
      refine ⟨fun _ => ?_, fun _ => ?_⟩
      · refine s_set ?_
        walk_at "w"
        refine r_strI (log_small (by omega) (by omega)) ?_
        walk_at "w"
        refine r_strI (log_small (by omega) (by omega)) ?_
        walk_at "w"
        refine ⟨show 5 ≤ 1000 by decide, fun q5 hq5 => ?_⟩
        refine r_catS (xs := xs.map nS) (zs := [fromS, nS hd, byS, nS sz, Tx1.atS]) (know hq5 L4) ?_ (by rw [List.length_map]; show _ + 5 ≤ _; omega) fun q6 hq6 => ?_
        · rw [upd_same, from_eq, by_eq, at_eq]
          rfl
        refine (fun (k6 : Hp) (O6 : k6 O = some (.lst (natV ys))) (Q6 : k6 q6 = some (.lst (strV (xs.map nS ++ [fromS, nS hd, byS, nS sz, Tx1.atS])))) (e6 : Ext kn k6) => ?_ : ∀ k6, k6 O = some (.lst (natV ys)) → k6 q6 = some (.lst (strV (xs.map nS ++ [fromS, nS hd, byS, nS sz, Tx1.atS]))) → Ext kn k6 → W _ _ k6 _ _) _ (know hq6 (know hq5 O4)) upd_same (ext_tr e4 (ext_tr (ext_new hq5) (ext_new hq6)))
        refine w_strsL (xs := ys) (fun R hR => w_var rfl hR) O6 (by omega) (fun m hm => by have := hy m hm; omega) (fun _ => rfl) (fun _ => rfl) fun L7 hL7 => ?_
        refine r_catS (know hL7 Q6) upd_same (by rw [List.length_append, List.length_map, List.length_map]; show _ + 5 + _ ≤ _; omega) fun q8 hq8 => ?_
        refine ⟨by omega, ext_tr e6 (ext_tr (ext_new hL7) (ext_new hq8)), q8, _, _, _, _, _, _, _, rfl, upd_same, ?_⟩
        have w5 : WL 20 [fromS, nS hd, byS, nS sz, Tx1.atS] := by
          have l1 := nS_two hhd
          have l2 := nS_two (show sz < 12 by omega)
          refine ⟨fun w hw => ?_, ?_⟩
          · simp only [List.mem_cons, List.mem_nil_iff, or_false] at hw
            rcases hw with rfl | rfl | rfl | rfl | rfl
            · decide
            · exact (nS_asc (by omega)).1
            · decide
            · exact (nS_asc (by omega)).1
            · decide
          · have a1 : fromS.length = 4 := by decide
            have a2 : byS.length = 2 := by decide
            have a3 : Tx1.atS.length = 2 := by decide
            simp only [Wt, List.map_cons, List.map_nil, List.sum_cons, List.sum_nil, List.length_cons, List.length_nil, a1, a2, a3]
            omega
        exact (wx.app w5).app wy
      · walk_at "wi"
        exact ⟨by omega, e4, L, _, _, _, _, _, _, _, rfl, L4, fun w hw => wx.asc w hw, Nat.le_trans wx.wt (by decide)⟩
    · rintro σ' k' n' ⟨hn', e', Dw, y1, y2, y3, y4, y5, y6, zs, rfl, hDw, wz⟩
      have lz := wz.len
      walk_at "wi"
      refine ⟨show 0 ≤ 1000 by decide, fun q hq => ?_⟩
      have okz : ∀ s ∈ zs, PyData.strOk s = true := fun s hs => Asc_ok ⟨wz.asc s hs, by
        have h1 := (WL.sum wz)
        have h2 : s.length ≤ (zs.map (·.length)).sum := le_sum hs
        omega⟩
      refine r_ne_d (.lst (sql (know hq hDw)) (dp_strs zs)) (.lst (sql upd_same) .nil) (shaped_strs zs okz) (by decide +kernel) ?_
      rw [nil_eqvS]
      have D4 := know (o := .lst []) hq hDw
      have e4 := ext_tr e' (ext_new (o := .lst []) hq)
      generalize upd k' q (.lst []) = k4 at D4 e4 ⊢
      walk_at "wi"
      refine ⟨fun _ => ?_, fun _ => ?_⟩
      · walk_at "w"
        refine w_m1 ?_
        walk_at "w"
        refine ⟨⟨_, rfl⟩, ?_⟩
        walk_at "w"
        rw [sp_eq]
        exact r_joinS wz (by decide) D4 fun ay => fin _ _ e4 (ay.up (by decide)) _ hn'
      · walk_at "w"
        rw [none_eq]
        exact fin _ _ e4 ⟨by decide, by decide⟩ _ hn'
end

end NN

namespace NN
open PySem PySem.Spec PyProof.Rows L2 LamX AW ClX
-- a stay that is known
local macro_rules | `(tactic| walk_at "st") => `(tactic| first
  | assumption
  | ((with_reducible refine' StayAt.ext ?h1 ?h2); (case h1 => assumption); (case h2 => walk_at "st"))
  | ((with_reducible refine' StayAt.ext ?h1 ?h2); (case h1 => exact ext_new (by assumption)); (case h2 => walk_at "st")))
local macro_rules | `(tactic| walk_at "w2") => `(tactic| first
  | ((with_reducible refine' w_first ?h1 ?h2 ?h3 ?h4 ?_); (case h3 => rfl); (case h4 => walk_at "st"); (case h1 => assumption); (case h2 => assumption))
  | ((with_reducible refine' w_after ?h1 ?h2 ?h3 ?h4 ?_); (case h3 => rfl); (case h4 => walk_at "st"); (case h1 => assumption); (case h2 => assumption))
  | ((with_reducible refine' w_nights ?h1 ?h2 ?h3 ?h4 ?_); (case h3 => rfl); (case h4 => walk_at "st"); (case h1 => assumption); (case h2 => assumption)))
local macro_rules | `(tactic| walk_at "w") => `(tactic| repeat (first | walk_at "w1" | walk_at "w2" | dsimp only))
local macro_rules | `(tactic| walk_at "wi") => `(tactic| repeat (first | walk_at "w1" | walk_at "w2" | with_reducible refine' s_if ?_ | dsimp only))

open Tx1 Ln
section
variable {P : Program} {w : World} {K : PySem.W.Frag} {mg : Str → Option Value} {base : Heap}
theorem r_strL {c : Cw} {kn : Hp} {n : Nat} {Q : V → Hp → Nat → Prop} {C s : Addr} {nr tn : List Bool} (l : LenAt C kn s nr tn) (q : ∀ k, Ext kn k → Q (.str (lnT nr tn)) k n) : W c (rStrO C (liftX (bStr C)) [.ref s]) kn n Q := by
  obtain ⟨dx, q1, q2, q3, a1, b1⟩ := l.at_
  exact r_strO mo_str a1 ⟨s, nr, tn, rfl, l, fun k e => ⟨_, rfl, q k e⟩⟩
def EAh3 (T : Tx K mg) (Q : V → Hp → Nat → Prop) : EAK := fun cls d kn n =>
  cls = .ref T.c_BadText ∧ ∃ dd y z, d = some dd ∧ kn dd = some (.xd [("word", z), ("line", y)]) ∧ ∀ q kn2, Ext kn kn2 → kn q = none → kn2 q = some (.tup [y, z]) → Q (.ref q) kn2 n
def TTh3 (T : Tx K mg) : (XK → Hp → VK → Prop) → Hp → VK → Prop := fun tl H Q => ∃ (c : Cw) (kn : Hp) (n : Nat) (QA : V → Hp → Nat → Prop), Good c kn n H ∧ (∀ v kn' n' H', QA v kn' n' → Good c kn' n' H' → Q v H') ∧
  ∀ E, ErrOk c (EAh3 T QA) E → W c (fun H' Q' => tl E H' Q') kn n fun v kn1 n1 => ∃ s nr tn, v = .ref s ∧ LenAt T.c_Lengths kn1 s nr tn ∧ ∀ k q, Ext kn1 k → k q = none → QA (.ref q) (upd k q (.lst [.str (lnT nr tn)])) n1
theorem w_lam3 (T : Tx K mg) {p a : Addr} {ns : List Int} {TT : List (Addr × Str)} {kn : Hp} {n : Nat} {σ : L2.St} {Q : V → Hp → Nat → Prop} {tt : XK → TE}
    (h : ∀ E, ErrOk (penC p a ns TT) (EAh3 T Q) E → W (penC p a ns TT) (tt E σ) kn n fun v kn1 n1 => ∃ s nr tn, v = .ref s ∧ LenAt T.c_Lengths kn1 s nr tn ∧ ∀ k q, Ext kn1 k → k q = none → Q (.ref q) (upd k q (.lst [.str (lnT nr tn)])) n1) : W (penC p a ns TT) (tLam TT (TTh3 T) tt σ) kn n Q :=
  fun H g Q' q => ⟨g.inv.2, fun H1 e hT => ⟨penC p a ns TT, kn, n, Q, good_lam g e hT, q, h⟩⟩
/-- _law_heard -/
theorem gives_heard (T : Tx K mg) {X : Cx} {q : Str} {cdg : Value} (hP : X.prog = P) (hw : X.w = w) (hK : X.K = K) (hmg : X.mg = mg) (hrX : Room 8 X.A) : GivesTo X ["ask", "caught", "found", "error"] "_law_heard" (defScope s__law_heard) T.f__law_heard cdg (defBody s__law_heard) "ask" q (TTh3 T) := by
  subst hP hw hK hmg
  intro f c' s H Q tl hask hc hTT
  obtain ⟨c, kn, n, QA, g, hQ, hb⟩ := hTT
  have hr := hrX.deeper (envOfC "_law_heard" (defScope s__law_heard) s.heap.objs.size T.f__law_heard cdg)
  refine ⟨_, (pss_cons (ps_asg (pe_tup (pa_cons pe_non (pa_cons pe_non pa_nil))) (pg_tup (by rfl) (pgs_cons (pg_name (i := 1) sc__law_heard.nd rfl (by first | exact Or.inl rfl | exact Or.inr rfl)) (pgs_cons (pg_name (i := 2) sc__law_heard.nd rfl (by first | exact Or.inl rfl | exact Or.inr rfl)) pgs_nil))))
       (pss_cons (ps_try_keep (i := 3) rfl rfl rfl sc__law_heard.nd rfl rfl ⟨(by rfl), (by decide), .inl T.g_StayError⟩ (fun W pn xe tk po =>
       (pss_one (ps_set (i := 2) sc__law_heard.nd rfl (by first | exact Or.inl rfl | exact Or.inr rfl) (hask (fun cls d σ H => σ.length = 4 → W cls d σ H) _ _ (fun cls d H' => ∀ σ', σ'.length = 4 → W cls d σ' H') _ _ (takes_len tk) (fun _ _ σ' _ h hl => h σ' hl))))) (fun aX oX clsX dX pnX zX vX =>
       (pss_one (ps_set (i := 1) sc__law_heard.nd rfl (by first | exact Or.inl rfl | exact Or.inr rfl) (pv 3)))))
       (pss_cons (ps_if (pt_cmpR c_isN (pv 1) pe_non (nomark _))
       (pss_one (ps_ret (pe_lst (pa_cons (pe_callTy (c_strO T.sm_Lengths___str__ (ok_Lengths___str__ T) (hr.mono (by decide)) T.bd_Lengths___str__ pass0) (by rfl) T.b_str (by decide +kernel) (pa_cons (pv 2) pa_nil)) pa_nil))))
       pss_nil)
       (pss_one (ps_ret (pe_ifExp (pt_val (pe_callB call_isK (by rfl) T.b_isinstance (by decide +kernel) (pa_cons (pv 1) (pa_cons (pe_glob (v := .ref T.c_BadText) (by rfl) T.g_BadText rfl) pa_nil)))) (pe_tup (pa_cons (pe_xk (pv 1)) (pa_cons (pe_xk (pv 1)) pa_nil))) (pe_tup (pa_cons pe_str (pa_cons pe_non pa_nil))))))))), ?_⟩
  refine ⟨by rw [sizeLine_eq]; exact (show 2 ≤ 16777216 by decide), fun q0 hq0 => ⟨q0, [.non, .non], rfl, sqt upd_same, rfl, .non, [.non], rfl, .non, [], rfl, rfl, rfl, ?_⟩⟩
  have g1 : Good c kn n (upd H q0 (.tup [.non, .non])) := g.ext (fun x o e => by rw [upd_ne (ne_of_none e hq0)]; exact e)
  have hc1 : (upd H q0 (.tup [.non, .non])) c' = some (CodeO c' q) := by rw [upd_ne (ne_of_none hc hq0)]; exact hc
  refine ⟨hc1, ?_⟩
  refine hb _ ?err _ g1 _ ?post
  case post =>
    rintro v kn1 n1 H2 ⟨s1, nr1, tn1, rfl, st, hq⟩ g2
    unfold gName
    dsimp only
    refine body_of (c := c) g2 ?_
    walk_at "wi"
    refine r_strL st fun k2 e2 => ?_
    walk_at "wi"
    refine ⟨show 1 ≤ 1000 by decide, fun p hp => ?_⟩
    exact fun H' g' => hQ _ _ _ _ (hq k2 p e2 hp) g'
  case err =>
    rintro cls d kn1 n1 H2 ⟨rfl, dd, y, z, rfl, hd, he⟩ g2
    intro σ' hσ
    refine ⟨T.exm_BadText, fun a ha => ?_⟩
    have hσ' : ∃ x0 x1 x2 x3, σ' = [x0, x1, x2, x3] := by
      match σ', hσ with
      | [x0, x1, x2, x3], _ => exact ⟨x0, x1, x2, x3, rfl⟩
    obtain ⟨x0, x1, x2, x3, rfl⟩ := hσ'
    refine ⟨_, rfl, ?_⟩
    unfold gName
    dsimp only
    refine body_of (c := c) (g2.new (o := exh a (.ref T.c_BadText) (some dd)) ha) ?_
    walk_at "wi"
    have had : dd ≠ a := fun z => by have := g2.ex _ _ hd; rw [z, ha] at this; cases this
    have hd2 : (upd kn1 a (exh a (.ref T.c_BadText) (some dd))) dd = some (.xd [("word", z), ("line", y)]) := by rw [upd_ne had]; exact hd
    have ex1 := ext_new (o := exh a (.ref T.c_BadText) (some dd)) (g2.free ha)
    refine r_isK (.own _) upd_same hd2 T.xc_BadText T.kit_BadText ?_
    walk_at "wi"
    refine w_xk ?_
    walk_at "wi"
    refine ⟨_, _, _, _, y, rfl, upd_same, hd2, T.xf_BadText, T.nx_BadText_line, rfl, ?_⟩
    walk_at "wi"
    refine w_xk ?_
    walk_at "wi"
    refine ⟨_, _, _, _, z, rfl, upd_same, hd2, T.xf_BadText, T.nx_BadText_word, rfl, ?_⟩
    walk_at "wi"
    refine ⟨show 2 ≤ 1000 by decide, fun p hp => ?_⟩
    exact fun H' g' => hQ _ _ _ _ (he p _ (ext_tr ex1 (ext_new hp)) (free_ext ex1 hp) upd_same) g'
end

end NN

namespace NN
open PySem PySem.Spec PyProof.Rows L2 LamX AW ClX
-- a stay that is known
local macro_rules | `(tactic| walk_at "st") => `(tactic| first
  | assumption
  | ((with_reducible refine' StayAt.ext ?h1 ?h2); (case h1 => assumption); (case h2 => walk_at "st"))
  | ((with_reducible refine' StayAt.ext ?h1 ?h2); (case h1 => exact ext_new (by assumption)); (case h2 => walk_at "st")))
local macro_rules | `(tactic| walk_at "w2") => `(tactic| first
  | ((with_reducible refine' w_first ?h1 ?h2 ?h3 ?h4 ?_); (case h3 => rfl); (case h4 => walk_at "st"); (case h1 => assumption); (case h2 => assumption))
  | ((with_reducible refine' w_after ?h1 ?h2 ?h3 ?h4 ?_); (case h3 => rfl); (case h4 => walk_at "st"); (case h1 => assumption); (case h2 => assumption))
  | ((with_reducible refine' w_nights ?h1 ?h2 ?h3 ?h4 ?_); (case h3 => rfl); (case h4 => walk_at "st"); (case h1 => assumption); (case h2 => assumption)))
local macro_rules | `(tactic| walk_at "w") => `(tactic| repeat (first | walk_at "w1" | walk_at "w2" | dsimp only))
local macro_rules | `(tactic| walk_at "wi") => `(tactic| repeat (first | walk_at "w1" | walk_at "w2" | with_reducible refine' s_if ?_ | dsimp only))

open Tx1 Ln
theorem nf_self {K : PySem.W.Frag} {C : Addr} : PySem.W.notFirst K C (.ref C) = true := by
  unfold PySem.W.notFirst
  simp
theorem dp_pair {K : PySem.W.Frag} {H : Hp} (x y : Int) : DpAll K H [V.int x, V.int y] [PyData.int x, PyData.int y] := .cons (.int _) (.cons (.int _) .nil)
theorem AscL.asc {m : Nat} {x : Str} (h : AscL m x) (l : m ≤ 900) : Asc x := ⟨h.1, Nat.le_trans h.2 l⟩
theorem ok_asc {m : Nat} {x : Str} (h : AscL m x) (l : m ≤ 900) : PyData.strOk x = true := Asc_ok (h.asc l)
theorem nS_ne (m : Nat) : nS m ≠ "" := fun z => by
  have := congrArg TL.tl z
  rw [nS_tl] at this
  exact TL.numL_ne m this
theorem no_num {x : Str} {ws : List Str} (hs : Txt.split x Tx1.spS = ws) (h0 : ("" : Str) ∈ ws) (hf : ¬ fromS ∈ ws) (hx : ¬ x = noneS) : ¬ isL x := fun z => by
  obtain ⟨ns, f⟩ := fin_of hx hs hf z
  rw [f.1.1] at h0
  obtain ⟨m, _, e⟩ := List.mem_map.1 h0
  exact nS_ne m e
theorem no_0 : ¬ isL "" := no_num (ws := [""]) (by decide +kernel) (by decide +kernel) (by decide +kernel) (by decide +kernel)
theorem no_1 : ¬ isL " " := no_num (ws := ["", ""]) (by decide +kernel) (by decide +kernel) (by decide +kernel) (by decide +kernel)
theorem no_3 : ¬ isL "399" := fun z => by
  obtain ⟨ns, f⟩ := fin_of (ws := ["399"]) (by decide +kernel) (by decide +kernel) (by decide +kernel) z
  have e := f.1.1
  rw [show ([Str.ofString "399"] : List Str) = [399].map nS by decide +kernel] at e
  have := nS_maps e
  have := f.2.2 399 (by rw [← this]; exact .head _)
  omega
theorem no_2 : ¬ isL "from 0 by 2 at 0 1" := fun z => by
  obtain ⟨w1, w3, r, h, s, ns, ys, hd, q⟩ := per_of (ws := [fromS, nS 0, byS, nS 2, Tx1.atS, nS 0, nS 1]) (j := 0) (by decide +kernel) (by decide +kernel) rfl (fun m _ hm => absurd hm (Nat.not_lt_zero _)) z
  have hd : [fromS, nS 0, byS, nS 2, Tx1.atS, nS 0, nS 1] = fromS :: w1 :: byS :: w3 :: Tx1.atS :: r := hd
  have g1 := (List.cons.inj (List.cons.inj hd).2).1
  have g3 := (List.cons.inj (List.cons.inj (List.cons.inj (List.cons.inj hd).2).2).2).1
  have g5 := (List.cons.inj (List.cons.inj (List.cons.inj (List.cons.inj (List.cons.inj hd).2).2).2).2).2
  obtain rfl := nS_inj (g1.trans q.h_)
  obtain rfl := nS_inj (g3.trans q.s_)
  have e5 : [0, 1].map nS = ys.map nS := g5.trans q.r_.1
  obtain rfl := nS_maps e5
  have := q.ok
  unfold leastOK at this
  rw [show leastP (maskOf 2 [0, 1]) = 1 by decide +kernel] at this
  exact absurd this (by simp)
theorem no_4 : ¬ isL "2 3 from 4 by 1 at 0" := fun z => by
  obtain ⟨w1, w3, r, h, s, ns, ys, hd, q⟩ := per_of (ws := [nS 2, nS 3, fromS, nS 4, byS, nS 1, Tx1.atS, nS 0]) (j := 2) (by decide +kernel) (by decide +kernel) rfl (fun m y hm hy => by
    match m, hm, hy with
    | 0, _, hy => cases hy; decide +kernel
    | 1, _, hy => cases hy; decide +kernel) z
  have hd : [fromS, nS 4, byS, nS 1, Tx1.atS, nS 0] = fromS :: w1 :: byS :: w3 :: Tx1.atS :: r := hd
  have g1 := (List.cons.inj (List.cons.inj hd).2).1
  have g3 := (List.cons.inj (List.cons.inj (List.cons.inj (List.cons.inj hd).2).2).2).1
  have g5 := (List.cons.inj (List.cons.inj (List.cons.inj (List.cons.inj (List.cons.inj hd).2).2).2).2).2
  obtain rfl := nS_inj (g1.trans q.h_)
  obtain rfl := nS_inj (g3.trans q.s_)
  have e5 : [0].map nS = ys.map nS := g5.trans q.r_.1
  obtain rfl := nS_maps e5
  have e2 : [2, 3].map nS = ns.map nS := q.lo_.1
  obtain rfl := nS_maps e2
  exact absurd q.ok (by decide +kernel)
theorem yes_5 : isL "from 1 by 399 at 0" := by
  refine per_isL (x := "from 1 by 399 at 0") (ws := [fromS, nS 1, byS, nS 399, Tx1.atS, nS 0]) (j := 0) (h := 1) (s := 399) (ns := []) (ys := [0]) (r := [nS 0]) (by decide +kernel) rfl ⟨⟨rfl, fun m hm => (by cases hm), .nil⟩, ⟨rfl, fun m hm => by rw [List.mem_singleton.1 hm]; decide, List.pairwise_singleton _ _⟩, rfl, rfl, by decide, by decide, by decide, fun m hm => by rw [List.mem_singleton.1 hm]; decide, fun m hm => (by cases hm), ?_⟩
  have e : leastP (maskOf 399 [0]) = 399 := by
    have := (leastP_is (t := maskOf 399 [0]) (by rw [mask_len]; decide)).2 fun k h1 h2 _ p => by
      rw [mask_len] at h2
      have := p k (by rw [mask_len]; exact h2)
      rw [Nat.mod_self, ix_mask h2, ix_mask (by omega)] at this
      have h3 : ¬ k ∈ [0] := fun z => by have := List.mem_singleton.1 z; omega
      rw [decide_eq_false h3] at this
      exact absurd this (by decide)
    rw [mask_len] at this
    exact this
  unfold leastOK
  rw [e]
  decide
section
variable {P : Program} {w : World} {K : PySem.W.Frag} {mg : Str → Option Value} {base : Heap}
theorem oR_Lengths_read (T : Tx K mg) : FnR P w K mg base (L2.CX P w) 11 T.f_Lengths_read (liftX (bRead K T.c_Lengths T.c_BadText)) :=
  ((ok_Lengths_read T).raw T.bd_Lengths_read .nil).imp fun vs H Q E h => by rw [List.append_nil]; exact h
theorem tabs_law (T : Tx K mg) : ∀ p ∈ tabsT T, p.1 = T.tp_law → p.2 = "law.<locals>.<lambda>" := by
  intro p hp _
  rcases List.mem_cons.mp hp with rfl | hp
  · rfl
  · cases hp
def spLaw {K : PySem.W.Frag} {mg : Str → Option Value} (T : Tx K mg) : Sp := fun vs H Q _ => ∃ (sc : Addr) (ns : List Int), vs = [.ref sc] ∧ SqL K H sc (ns.map V.int) ∧ Tabs (tabsT T) H ∧ ∀ H', Q (.bl true) H'
theorem gname_run {i : Nat} {v : V} {σ : L2.St} {H : Hp} {N : L2.St → Hp → Prop} (h : N (σ.set i (some v)) H) : gName i v σ H N := h
theorem tabs_new {T : List (Addr × Str)} {H : Hp} (h : ∀ p ∈ T, H p.1 = some (.tbl #[])) : Tabs T H := fun p hp => ⟨#[], h p hp, by simp [TriplesOk], fun pos cv hc => by simp [codeAmong] at hc⟩
/-- Lengths.read(t) in a lambda that is heard -/
theorem w_read (T : Tx K mg) {p a : Addr} {ns : List Int} {TT : List (Addr × Str)} {kn : Hp} {n : Nat} {σ : L2.St} {Q : V → Hp → Nat → Prop} {te : TE} {t : Str}
    (hte : ∀ Q' : V → Hp → Nat → Prop, Q' (.str t) kn n → W (penC p a ns TT) (te σ) kn n Q') (ha : Asc t)
    (h1 : isL t → ∀ q kn', Ext kn kn' → kn q = none → kn' q = some (.lst [.str t]) → Q (.ref q) kn' n)
    (h2 : ¬ isL t → ∀ q kn', Ext kn kn' → kn q = none → kn' q = some (.tup [.int 0, .int 0]) → Q (.ref q) kn' n) :
    W (penC p a ns TT) (tLam TT (TTh3 T) (fun EE => tCMeth T.c_Lengths (liftX (bRead K T.c_Lengths T.c_BadText)) EE (tC (.ref T.c_Lengths)) (tCons te tNil)) σ) kn n Q := by
  refine w_lam3 T fun E hE => ?_
  refine w_cmeth mo_read hE ?_
  walk_at "w"
  refine ⟨rfl, ?_⟩
  refine w_cons (hte _ ?_)
  walk_at "w"
  refine ⟨_, rfl, .inl ⟨t, rfl, ha, fun nr tn F ed s kn1 e1 n1 l => ?_, fun nt d kn1 e1 n1 hd => ?_⟩⟩
  · refine ⟨s, nr, tn, rfl, l, fun k q ek hq => ?_⟩
    rw [← ed]
    exact h1 ⟨nr, tn, F, ed⟩ q _ (ext_tr e1 (ext_tr ek (ext_new hq))) (free_ext (ext_tr e1 ek) hq) upd_same
  · exact ⟨rfl, d, _, _, rfl, hd, fun q kn2 e2 nq q1 => h2 nt q kn2 (ext_tr e1 e2) (free_ext e1 nq) q1⟩
theorem w_readOdd (T : Tx K mg) {p a : Addr} {ns : List Int} {TT : List (Addr × Str)} {kn : Hp} {n : Nat} {σ : L2.St} {Q : V → Hp → Nat → Prop} {te : TE} {v : V}
    (hte : ∀ Q' : V → Hp → Nat → Prop, Q' v kn n → W (penC p a ns TT) (te σ) kn n Q') (h : (∃ t, v = .str t ∧ Asc t ∧ ¬ isL t) ∨ ∃ ty, TyX K kn v ty ∧ PySem.W.kitOne K ty (.type "str") = some false)
    (h2 : ∀ q kn', Ext kn kn' → kn' q = some (.tup [.int 0, .int 0]) → Q (.ref q) kn' n) :
    W (penC p a ns TT) (tLam TT (TTh3 T) (fun EE => tCMeth T.c_Lengths (liftX (bRead K T.c_Lengths T.c_BadText)) EE (tC (.ref T.c_Lengths)) (tCons te tNil)) σ) kn n Q := by
  refine w_lam3 T fun E hE => ?_
  refine w_cmeth mo_read hE ?_
  walk_at "w"
  refine ⟨rfl, ?_⟩
  refine w_cons (hte _ ?_)
  walk_at "w"
  have bad : BadT T.c_BadText kn fun cls d k => EAh3 T Q cls d k n := fun d kn1 e1 n1 hd => ⟨rfl, d, _, _, rfl, hd, fun q kn2 e2 nq q1 => h2 q kn2 (ext_tr e1 e2) q1⟩
  rcases h with ⟨t, rfl, ha, nt⟩ | ⟨ty, hty, kt⟩
  · exact ⟨_, rfl, .inl ⟨t, rfl, ha, fun nr tn F ed => absurd ⟨nr, tn, F, ed⟩ nt, fun _ => bad⟩⟩
  · exact ⟨_, rfl, .inr ⟨ty, hty, kt, bad⟩⟩
theorem ok_law (T : Tx K mg) (TB : TabB base mg T.cc_law T.tp_law) : L2.FnG P w K mg base CX0 40 T.f_law T.d_law ["script"] (spLaw T) := by
  obtain ⟨oc, od, kV, doc, pm, an, cdH, ct, osl, hfd, lkH, hcdH⟩ := T.F__law_heard.ex
  have bdH := T.bd__law_heard
  rw [hfd] at bdH lkH
  refine T.F_law.okGC sc_law (fun vs H Q E h => ?_) (fun A outer s H vs Q E hr hg h => ?_)
  · obtain ⟨sc, ns, rfl, _⟩ := h
    rfl
  · obtain ⟨sc, ns, rfl, hs, hT, h⟩ := h
    have cL := T.cl_Lengths
    refine ⟨_, (pss_cons (ps_set (i := 1) sc_law.nd rfl (by first | exact Or.inl rfl | exact Or.inr rfl) (pe_call (ok__law_pen T) (hr.mono (by decide)) (by rfl) T.g__law_pen T.F__law_pen.kp T.bd__law_pen .nil pass0 (pa_cons (pv 0) pa_nil)))
       (pss_cons (ps_for PassesOwn.never rfl (pi_range1 (by rfl) T.b_range (pa_cons pe_int pa_nil)) (pg_name (i := 2) sc_law.nd rfl (by first | exact Or.inl rfl | exact Or.inr rfl))
       (pss_cons (ps_set (i := 3) sc_law.nd rfl (by first | exact Or.inl rfl | exact Or.inr rfl) (pe_call (ok__law_line T (tabsT T)) (hr.mono (by decide)) (by rfl) T.g__law_line T.F__law_line.kp T.bd__law_line .nil pass0 (pa_cons (pv 1) pa_nil)))
       (pss_cons (ps_for PassesOwn.never rfl (pi_list (pe_lst (pa_cons (pv 3) (pa_cons (pe_call (ok__law_bent T (tabsT T)) (hr.mono (by decide)) (by rfl) T.g__law_bent T.F__law_bent.kp T.bd__law_bent .nil pass0 (pa_cons (pv 1) (pa_cons (pv 3) pa_nil))) (pa_cons (pe_call (ok__law_bent T (tabsT T)) (hr.mono (by decide)) (by rfl) T.g__law_bent T.F__law_bent.kp T.bd__law_bent .nil pass0 (pa_cons (pv 1) (pa_cons (pe_call (ok__law_bent T (tabsT T)) (hr.mono (by decide)) (by rfl) T.g__law_bent T.F__law_bent.kp T.bd__law_bent .nil pass0 (pa_cons (pv 1) (pa_cons (pv 3) pa_nil))) pa_nil))) pa_nil))))) (pg_name (i := 4) sc_law.nd rfl (by first | exact Or.inl rfl | exact Or.inr rfl))
       (pss_cons (ps_set (i := 5) sc_law.nd rfl (by first | exact Or.inl rfl | exact Or.inr rfl) (pe_ifExp (pt_val (pe_call (ok__law_is_text T) (hr.mono (by decide)) (by rfl) T.g__law_is_text T.F__law_is_text.kp T.bd__law_is_text .nil pass0 (pa_cons (pv 4) pa_nil))) (pe_lst (pa_cons (pv 4) pa_nil)) (pe_tup (pa_cons pe_int (pa_cons pe_int pa_nil)))))
       (pss_one (ps_if (pt_cmpR (op_neD hr.units) (pe_lamcall (T := tabsT T) (TT := TTh3 T) (t := fun EE => tCMeth T.c_Lengths (liftX (bRead K T.c_Lengths T.c_BadText)) EE (tC (.ref T.c_Lengths)) (tCons (tVar 4) tNil)) (k := 16) (by rfl) T.g__law_heard T.F__law_heard.kp lkH hcdH bdH sc__law_heard rfl (Or.inl rfl) (gives_heard T rfl rfl rfl rfl (hr.mono (by decide))) TB T.code_law (by first | exact .head _ | exact .tail _ (.head _)) (tabs_law T) (hr.mono (by decide)) (lamS_by (sc := defScope s_law) (by decide +kernel)) rfl (fun _ _ _ _ _ => rfl) (fun AL outerL sL HL EL fL cL hr => (pe_cmeth (pe_glob (v := .ref T.c_Lengths) (by rfl) T.g_Lengths rfl) T.cr_Lengths T.cm_Lengths_read (oR_Lengths_read T) (hr.mono (by decide)) (passes_call (takes_of rfl rfl rfl rfl) (fun _ _ _ _ h => h)) (pa_cons (pv 4) pa_nil)))) (pv 5) (nomark _))
       (pss_one (ps_ret pe_bl))
       pss_nil))))
       (pss_cons (ps_set (i := 6) sc_law.nd rfl (by first | exact Or.inl rfl | exact Or.inr rfl) (pe_call (ok__law_pick T (tabsT T)) (hr.mono (by decide)) (by rfl) T.g__law_pick T.F__law_pick.kp T.bd__law_pick .nil pass0 (pa_cons (pv 1) (pa_cons (pe_lst (pa_cons pe_non (pa_cons pe_int (pa_cons pe_bl (pa_cons (pe_lst (pa_cons (pv 3) pa_nil)) (pa_cons (pe_tup (pa_cons (pv 3) pa_nil)) (pa_cons pe_dnewK (pa_cons pe_str (pa_cons pe_str (pa_cons (pe_smeth0 (pe_glob (v := .ref T.c_Lengths) (by rfl) T.g_Lengths rfl) T.cr_Lengths T.sme_Lengths_none (oR_Lengths_none T) (hr.mono (by decide)) pass0) (pa_cons (pe_op op_pow pe_int pe_int) pa_nil))))))))))) pa_nil))))
       (pss_one (ps_if (pt_cmpR (op_neD hr.units) (pe_lamcall (T := tabsT T) (TT := TTh3 T) (t := fun EE => tCMeth T.c_Lengths (liftX (bRead K T.c_Lengths T.c_BadText)) EE (tC (.ref T.c_Lengths)) (tCons (tVar 6) tNil)) (k := 16) (by rfl) T.g__law_heard T.F__law_heard.kp lkH hcdH bdH sc__law_heard rfl (Or.inl rfl) (gives_heard T rfl rfl rfl rfl (hr.mono (by decide))) TB T.code_law (by first | exact .head _ | exact .tail _ (.head _)) (tabs_law T) (hr.mono (by decide)) (lamS_by (sc := defScope s_law) (by decide +kernel)) rfl (fun _ _ _ _ _ => rfl) (fun AL outerL sL HL EL fL cL hr => (pe_cmeth (pe_glob (v := .ref T.c_Lengths) (by rfl) T.g_Lengths rfl) T.cr_Lengths T.cm_Lengths_read (oR_Lengths_read T) (hr.mono (by decide)) (passes_call (takes_of rfl rfl rfl rfl) (fun _ _ _ _ h => h)) (pa_cons (pv 6) pa_nil)))) (pe_tup (pa_cons pe_int (pa_cons pe_int pa_nil))) (nomark _))
       (pss_one (ps_ret pe_bl))
       pss_nil))))))
       (pss_cons (ps_set (i := 7) sc_law.nd rfl (by first | exact Or.inl rfl | exact Or.inr rfl) (pe_lst (pa_cons (pe_lamcall (T := tabsT T) (TT := TTh3 T) (t := fun EE => tCMeth T.c_Lengths (liftX (bRead K T.c_Lengths T.c_BadText)) EE (tC (.ref T.c_Lengths)) (tCons (tC (.str (Str.ofString "from 0 by 2 at 0 1"))) tNil)) (k := 16) (by rfl) T.g__law_heard T.F__law_heard.kp lkH hcdH bdH sc__law_heard rfl (Or.inl rfl) (gives_heard T rfl rfl rfl rfl (hr.mono (by decide))) TB T.code_law (by first | exact .head _ | exact .tail _ (.head _)) (tabs_law T) (hr.mono (by decide)) (lamS_by (sc := defScope s_law) (by decide +kernel)) rfl (fun _ _ _ _ _ => rfl) (fun AL outerL sL HL EL fL cL hr => (pe_cmeth (pe_glob (v := .ref T.c_Lengths) (by rfl) T.g_Lengths rfl) T.cr_Lengths T.cm_Lengths_read (oR_Lengths_read T) (hr.mono (by decide)) (passes_call (takes_of rfl rfl rfl rfl) (fun _ _ _ _ h => h)) (pa_cons pe_str pa_nil)))) pa_nil)))
       (pss_cons (ps_expr (pe_bm PySem.F.plainAttrs_list PySem.F.slot_list_append PySem.F.type_list_append mt_append (pv 7) (pa_cons (pe_lamcall (T := tabsT T) (TT := TTh3 T) (t := fun EE => tCMeth T.c_Lengths (liftX (bRead K T.c_Lengths T.c_BadText)) EE (tC (.ref T.c_Lengths)) (tCons (tC (.str (Str.ofString "2 3 from 4 by 1 at 0"))) tNil)) (k := 16) (by rfl) T.g__law_heard T.F__law_heard.kp lkH hcdH bdH sc__law_heard rfl (Or.inl rfl) (gives_heard T rfl rfl rfl rfl (hr.mono (by decide))) TB T.code_law (by first | exact .head _ | exact .tail _ (.head _)) (tabs_law T) (hr.mono (by decide)) (lamS_by (sc := defScope s_law) (by decide +kernel)) rfl (fun _ _ _ _ _ => rfl) (fun AL outerL sL HL EL fL cL hr => (pe_cmeth (pe_glob (v := .ref T.c_Lengths) (by rfl) T.g_Lengths rfl) T.cr_Lengths T.cm_Lengths_read (oR_Lengths_read T) (hr.mono (by decide)) (passes_call (takes_of rfl rfl rfl rfl) (fun _ _ _ _ h => h)) (pa_cons pe_str pa_nil)))) pa_nil)))
       (pss_cons (ps_expr (pe_bm PySem.F.plainAttrs_list PySem.F.slot_list_append PySem.F.type_list_append mt_append (pv 7) (pa_cons (pe_lamcall (T := tabsT T) (TT := TTh3 T) (t := fun EE => tCMeth T.c_Lengths (liftX (bRead K T.c_Lengths T.c_BadText)) EE (tC (.ref T.c_Lengths)) (tCons (tC (.str (Str.ofString "399"))) tNil)) (k := 16) (by rfl) T.g__law_heard T.F__law_heard.kp lkH hcdH bdH sc__law_heard rfl (Or.inl rfl) (gives_heard T rfl rfl rfl rfl (hr.mono (by decide))) TB T.code_law (by first | exact .head _ | exact .tail _ (.head _)) (tabs_law T) (hr.mono (by decide)) (lamS_by (sc := defScope s_law) (by decide +kernel)) rfl (fun _ _ _ _ _ => rfl) (fun AL outerL sL HL EL fL cL hr => (pe_cmeth (pe_glob (v := .ref T.c_Lengths) (by rfl) T.g_Lengths rfl) T.cr_Lengths T.cm_Lengths_read (oR_Lengths_read T) (hr.mono (by decide)) (passes_call (takes_of rfl rfl rfl rfl) (fun _ _ _ _ h => h)) (pa_cons pe_str pa_nil)))) pa_nil)))
       (pss_cons (ps_expr (pe_bm PySem.F.plainAttrs_list PySem.F.slot_list_append PySem.F.type_list_append mt_append (pv 7) (pa_cons (pe_lamcall (T := tabsT T) (TT := TTh3 T) (t := fun EE => tCMeth T.c_Lengths (liftX (bRead K T.c_Lengths T.c_BadText)) EE (tC (.ref T.c_Lengths)) (tCons (tC (.str (Str.ofString "from 1 by 399 at 0"))) tNil)) (k := 16) (by rfl) T.g__law_heard T.F__law_heard.kp lkH hcdH bdH sc__law_heard rfl (Or.inl rfl) (gives_heard T rfl rfl rfl rfl (hr.mono (by decide))) TB T.code_law (by first | exact .head _ | exact .tail _ (.head _)) (tabs_law T) (hr.mono (by decide)) (lamS_by (sc := defScope s_law) (by decide +kernel)) rfl (fun _ _ _ _ _ => rfl) (fun AL outerL sL HL EL fL cL hr => (pe_cmeth (pe_glob (v := .ref T.c_Lengths) (by rfl) T.g_Lengths rfl) T.cr_Lengths T.cm_Lengths_read (oR_Lengths_read T) (hr.mono (by decide)) (passes_call (takes_of rfl rfl rfl rfl) (fun _ _ _ _ h => h)) (pa_cons pe_str pa_nil)))) pa_nil)))
       (pss_one (ps_ret (pe_cmpR (op_eqD hr.units) (pv 7) (pe_op op_cat (pe_op op_repQ (pe_lst (pa_cons (pe_tup (pa_cons pe_int (pa_cons pe_int pa_nil))) pa_nil)) pe_int) (pe_lst (pa_cons (pe_lst (pa_cons pe_str pa_nil)) pa_nil))) (nomark _)))))))))), ?_⟩
    refine ⟨_, rfl, sc, ns, rfl, hs, fun p a ns' H1 pa hp ha h1 h2 eH => ?_⟩
    have g1 : AW.Good (penC p a ns' (tabsT T)) (fun _ => none) 0 H1 := ⟨fun x o z => (by cases z), ⟨⟨⟨0, 0, h1, by omega, by omega, by omega⟩, h2, pa⟩, Tabs.keep (fun b o z _ => eH b o z) hT⟩, fun _ _ => rfl, fun x o z => (by cases z)⟩
    refine gname_run ?_
    dsimp only
    refine body_of g1 ?_
    clear g1
    refine s_seq ?_
    refine s_join (fun σ' kn' n' => n' ≤ 400 ∧ ∃ x0 x1 x2 x3 x4 x5 x6 x7, σ' = [x0, x1, x2, x3, x4, x5, x6, x7]) ?_ ?_
    · refine s_forR1 (j := 10) (fun i σ' kn' n' => n' ≤ 40 * i ∧ ∃ x0 x2 x3 x4 x5 x6 x7, σ' = [x0, some (.ref p), x2, x3, x4, x5, x6, x7]) ?_ ?_ ?_
      · walk_at "w"
        refine ⟨rfl, by decide, by decide, by omega, ?_⟩
        exact ⟨_, _, _, _, _, _, _, rfl⟩
      · rintro i σ' kn n hi ⟨hn, x0, x2, x3, x4, x5, x6, x7, rfl⟩
        have hi8 : i < 10 := hi
        walk_at "w"
        refine w_callP mo_line err_no ?_
        walk_at "w"
        refine ⟨by omega, rfl, fun y0 k1 e1 ay0 => ?_⟩
        clear e1
        walk_at "wi"
        refine s_forJ (i_list ?_)
        walk_at "w"
        refine w_callP mo_bent err_no ?_
        walk_at "w"
        refine ⟨by omega, _, rfl, ay0.up (by decide), fun y1 k2 e2 ay1 => ?_⟩
        have ay1 := ay1.up (show _ ≤ 200 by have := ay0.2; omega)
        clear e2
        walk_at "w"
        refine w_callP mo_bent err_no ?_
        walk_at "w"
        refine w_callP mo_bent err_no ?_
        walk_at "w"
        refine ⟨by omega, _, rfl, ay0.up (by decide), fun y2 k3 e3 ay2 => ?_⟩
        have ay2 := ay2.up (show _ ≤ 200 by have := ay0.2; omega)
        clear e3
        walk_at "w"
        refine ⟨by omega, _, rfl, ay2, fun y3 k4 e4 ay3 => ?_⟩
        have ay3 := ay3.up (show _ ≤ 620 by have := ay2.2; omega)
        clear e4
        walk_at "w"
        refine ⟨show 3 ≤ 1000 by decide, fun l2 hl2 => ?_⟩
        walk_at "w"
        have hl3 : upd k4 l2 (.lst [.str y0, .str y1, .str y3]) l2 = some (.lst [.str y0, .str y1, .str y3]) := upd_same
        generalize upd k4 l2 (.lst [.str y0, .str y1, .str y3]) = k5 at hl3 ⊢
        clear hl2
        refine ⟨l2, _, rfl, hl3, [.str y0, .str y1, .str y3], (fun k => k l2 = some (.lst [.str y0, .str y1, .str y3])), (fun j σ' k m => m ≤ n + 36 ∧ k l2 = some (.lst [.str y0, .str y1, .str y3]) ∧ ∃ x4' x5', σ' = [x0, some (.ref p), some (.int (i : Int)), some (.str y0), x4', x5', x6, x7]), gives_lst, ⟨by omega, hl3, _, _, rfl⟩, fun j σ' k m h => h.2.1, ?_, ?_⟩
        · rintro j x σ' k m hx ⟨hm', hl9, x4', x5', rfl⟩
          obtain ⟨y, rfl, ay⟩ : ∃ y, x = .str y ∧ AscL 900 y := by
            rcases j with _ | _ | _ | j
            · cases hx; exact ⟨_, rfl, ay0.up (by decide)⟩
            · cases hx; exact ⟨_, rfl, ay1.up (by decide)⟩
            · cases hx; exact ⟨_, rfl, ay3.up (by decide)⟩
            · cases hx
          have sy : ∀ s ∈ [y], PyData.strOk s = true := fun s hs => by
            rw [List.mem_singleton.1 hs]
            exact ok_asc ay (by decide)
          walk_at "wi"
          refine w_call (EA := fun _ _ _ _ => False) mo_IT err_no ?_
          walk_at "w"
          refine ⟨y, rfl, ay.asc (by decide), fun it k6 e6 => ?_, fun it k6 e6 => ?_⟩
          · have hl6 := e6 _ _ hl9
            walk_at "wi"
            refine ⟨show 1 ≤ 1000 by decide, fun q7 hq7 => ?_⟩
            have D7 : (upd k6 q7 (.lst [.str y])) q7 = some (.lst [.str y]) := upd_same
            have hl7 := know (o := .lst [.str y]) hq7 hl6
            generalize upd k6 q7 (.lst [.str y]) = k7 at D7 hl7 ⊢
            walk_at "wi"
            refine w_read T (fun Q' q => ?_) (ay.asc (by decide)) (fun _ q8 k8 e8 _ hq8 => ?_) (fun nit => absurd it nit)
            · walk_at "w"
              exact q
            · walk_at "wi"
              refine r_ne_d (.lst (sql hq8) (dp_strs [y])) (.lst (sql (e8 _ _ D7)) (dp_strs [y])) (shaped_strs [y] sy) (shaped_strs [y] sy) ?_
              rw [eqv_strL, decide_eq_true rfl]
              walk_at "wi"
              exact ⟨hm', e8 _ _ hl7, _, _, rfl⟩
          · have hl6 := e6 _ _ hl9
            walk_at "wi"
            refine ⟨show 2 ≤ 1000 by decide, fun q7 hq7 => ?_⟩
            have D7 : (upd k6 q7 (.tup [.int 0, .int 0])) q7 = some (.tup [.int 0, .int 0]) := upd_same
            have hl7 := know (o := .tup [.int 0, .int 0]) hq7 hl6
            generalize upd k6 q7 (.tup [.int 0, .int 0]) = k7 at D7 hl7 ⊢
            walk_at "wi"
            refine w_read T (fun Q' q => ?_) (ay.asc (by decide)) (fun it2 => absurd it2 it) (fun _ q8 k8 e8 _ hq8 => ?_)
            · walk_at "w"
              exact q
            · walk_at "wi"
              refine r_ne_d (.tup (sqt hq8) (dp_pair 0 0)) (.tup (sqt (e8 _ _ D7)) (dp_pair 0 0)) (by decide +kernel) (by decide +kernel) ?_
              rw [show PyData.eqv (.tuple [PyData.int 0, PyData.int 0]) (.tuple [PyData.int 0, PyData.int 0]) = true by decide +kernel]
              walk_at "wi"
              exact ⟨hm', e8 _ _ hl7, _, _, rfl⟩
        · rintro σ' k m ⟨hm', hl9, x4', x5', rfl⟩
          walk_at "wi"
          refine w_callP mo_pick err_no ?_
          walk_at "w"
          refine ⟨show 1 ≤ 1000 by decide, fun l4 hl4 => ?_⟩
          walk_at "w"
          refine ⟨show 1 ≤ 1000 by decide, fun t5 ht5 => ?_⟩
          walk_at "w"
          refine w_dnew fun d6 hd6 => ?_
          walk_at "w"
          have f4 : upd (upd (upd k l4 (.lst [.str y0])) t5 (.tup [.str y0])) d6 (.dK []) l4 = some (.lst [.str y0]) := know hd6 (know ht5 upd_same)
          have f5 : upd (upd (upd k l4 (.lst [.str y0])) t5 (.tup [.str y0])) d6 (.dK []) t5 = some (.tup [.str y0]) := know hd6 upd_same
          have f6 : upd (upd (upd k l4 (.lst [.str y0])) t5 (.tup [.str y0])) d6 (.dK []) d6 = some (.dK []) := upd_same
          generalize upd (upd (upd k l4 (.lst [.str y0])) t5 (.tup [.str y0])) d6 (.dK []) = ka at f4 f5 f6 ⊢
          clear hl4 ht5 hd6 hl9
          refine w_smeth (EA := fun _ _ _ _ => False) mo_new err_no ?_
          walk_at "w"
          refine ⟨rfl, ?_⟩
          walk_at "w"
          refine ⟨rfl, fun s9 kb eb nb lb => ?_⟩
          walk_at "w"
          refine r_I ⟨by decide, by decide, by decide⟩ ?_
          generalize (10 : Int) ^ (20 : Int).toNat = big
          walk_at "w"
          refine ⟨show 10 ≤ 1000 by decide, fun l8 hl8 => ?_⟩
          walk_at "w"
          refine ⟨by omega, _, _, rfl, upd_same, show 0 < 10 by decide, show 10 ≤ 1000 by decide, fun v hv => ?_⟩
          have g4 := know (o := .lst [.non, .int 0, .bl true, .ref l4, .ref t5, .ref d6, .str "", .str " ", .ref s9, .int big]) hl8 (eb _ _ f4)
          have g5 := know (o := .lst [.non, .int 0, .bl true, .ref l4, .ref t5, .ref d6, .str "", .str " ", .ref s9, .int big]) hl8 (eb _ _ f5)
          have g6 := know (o := .lst [.non, .int 0, .bl true, .ref l4, .ref t5, .ref d6, .str "", .str " ", .ref s9, .int big]) hl8 (eb _ _ f6)
          have g9 := LenAt.ext (ext_new (o := .lst [.non, .int 0, .bl true, .ref l4, .ref t5, .ref d6, .str "", .str " ", .ref s9, .int big]) hl8) lb
          generalize upd kb l8 (.lst [.non, .int 0, .bl true, .ref l4, .ref t5, .ref d6, .str "", .str " ", .ref s9, .int big]) = kc at g4 g5 g6 g9 ⊢
          clear f4 f5 f6 eb nb lb hl8
          have od : (∃ t, v = .str t ∧ Asc t ∧ ¬ isL t) ∨ ∃ ty, TyX K kc v ty ∧ PySem.W.kitOne K ty (.type "str") = some false := by
            simp only [List.mem_cons, List.mem_nil_iff, or_false] at hv
            rcases hv with rfl | rfl | rfl | rfl | rfl | rfl | rfl | rfl | rfl | rfl
            · exact .inr ⟨_, .base .non, kit_ty rfl⟩
            · exact .inr ⟨_, .base (.int _), kit_ty rfl⟩
            · exact .inr ⟨_, .base (.bl true), kit_ty rfl⟩
            · exact .inr ⟨_, .base (.lst g4), kit_ty rfl⟩
            · exact .inr ⟨_, .base (.tup g5), kit_ty rfl⟩
            · exact .inr ⟨_, .base (.dK g6), kit_ty rfl⟩
            · exact .inl ⟨_, rfl, ⟨by decide, by decide⟩, no_0⟩
            · exact .inl ⟨_, rfl, ⟨by decide, by decide⟩, no_1⟩
            · obtain ⟨dx0, _, _, _, a0, b0⟩ := g9.at_
              exact .inr ⟨_, T.own_Lengths.ty a0, T.kit_Lengths_str⟩
            · exact .inr ⟨_, .base (.int _), kit_ty rfl⟩
          clear hv g4 g5 g6 g9
          walk_at "wi"
          refine w_readOdd T (fun Q' q => ?_) od (fun q k8 e8 hq => ?_)
          · walk_at "w"
            exact q
          walk_at "wi"
          refine ⟨show 2 ≤ 1000 by decide, fun l3 hl3' => ?_⟩
          refine r_ne_d (.tup (sqt (know hl3' hq)) (dp_pair 0 0)) (.tup (sqt upd_same) (dp_pair 0 0)) (by decide +kernel) (by decide +kernel) ?_
          rw [show PyData.eqv (.tuple [PyData.int 0, PyData.int 0]) (.tuple [PyData.int 0, PyData.int 0]) = true by decide +kernel]
          walk_at "wi"
          exact ⟨by omega, _, _, _, _, _, _, _, rfl⟩
      · rintro σ' kn' n' ⟨hn, x0, x2, x3, x4, x5, x6, x7, rfl⟩
        exact ⟨hn, _, _, _, _, _, _, _, _, rfl⟩
    · rintro σ' kn n ⟨hn, x0, x1, x2, x3, x4, x5, x6, x7, rfl⟩
      walk_at "w"
      refine w_read T (fun Q' q => w_c q) ⟨by decide +kernel, by decide⟩ (fun it => absurd it no_2) (fun _ r1 k1 e1 nr1 hr1 => ?_)
      walk_at "w"
      refine ⟨show 1 ≤ 1000 by decide, fun D hD => ?_⟩
      have a1 := know (o := .lst [.ref r1]) hD hr1
      have d1 : upd k1 D (.lst [.ref r1]) D = some (.lst [.ref r1]) := upd_same
      have n1 : r1 ≠ D := fun z => by rw [z, hD] at hr1; cases hr1
      generalize upd k1 D (.lst [.ref r1]) = k2 at a1 d1 ⊢
      clear hD hr1 nr1 e1
      walk_at "w"
      refine w_append rfl d1 ?_
      refine w_cons (w_read T (fun Q' q => w_c q) ⟨by decide +kernel, by decide⟩ (fun it => absurd it no_4) (fun _ r2 k3 e2 nr2 hr2 => ?_))
      walk_at "w"
      refine ⟨_, [.ref r1], rfl, e2 _ _ d1, show 1 ≤ 1000 by decide, ?_⟩
      have n2 : r2 ≠ D := fun z => by rw [z, d1] at nr2; cases nr2
      have d2 : (upd k3 D (.lst ([.ref r1] ++ [.ref r2]))) D = some (.lst [.ref r1, .ref r2]) := upd_same
      have a1 : (upd k3 D (.lst ([.ref r1] ++ [.ref r2]))) r1 = some (.tup [.int 0, .int 0]) := by rw [upd_ne n1]; exact e2 _ _ a1
      have a2 : (upd k3 D (.lst ([.ref r1] ++ [.ref r2]))) r2 = _ := (upd_ne n2).trans hr2
      generalize upd k3 D (.lst ([.ref r1] ++ [.ref r2])) = k10 at d2 a1 a2 ⊢
      clear hr2 nr2 e2 d1
      walk_at "w"
      refine w_append rfl d2 ?_
      refine w_cons (w_read T (fun Q' q => w_c q) ⟨by decide +kernel, by decide⟩ (fun it => absurd it no_3) (fun _ r3 k3 e3 nr3 hr3 => ?_))
      walk_at "w"
      refine ⟨_, [.ref r1, .ref r2], rfl, e3 _ _ d2, show 2 ≤ 1000 by decide, ?_⟩
      have n3 : r3 ≠ D := fun z => by rw [z, d2] at nr3; cases nr3
      have d3 : (upd k3 D (.lst ([.ref r1, .ref r2] ++ [.ref r3]))) D = some (.lst [.ref r1, .ref r2, .ref r3]) := upd_same
      have a1 : (upd k3 D (.lst ([.ref r1, .ref r2] ++ [.ref r3]))) r1 = some (.tup [.int 0, .int 0]) := by rw [upd_ne n1]; exact e3 _ _ a1
      have a2 : (upd k3 D (.lst ([.ref r1, .ref r2] ++ [.ref r3]))) r2 = some (.tup [.int 0, .int 0]) := by rw [upd_ne n2]; exact e3 _ _ a2
      have a3 : (upd k3 D (.lst ([.ref r1, .ref r2] ++ [.ref r3]))) r3 = _ := (upd_ne n3).trans hr3
      generalize upd k3 D (.lst ([.ref r1, .ref r2] ++ [.ref r3])) = k11 at d3 a1 a2 a3 ⊢
      clear hr3 nr3 e3 d2
      walk_at "w"
      refine w_append rfl d3 ?_
      refine w_cons (w_read T (fun Q' q => w_c q) ⟨by decide +kernel, by decide⟩ (fun _ r4 k3 e4 nr4 hr4 => ?_) (fun it => absurd yes_5 it))
      walk_at "w"
      refine ⟨_, [.ref r1, .ref r2, .ref r3], rfl, e4 _ _ d3, show 3 ≤ 1000 by decide, ?_⟩
      have n4 : r4 ≠ D := fun z => by rw [z, d3] at nr4; cases nr4
      have d4 : (upd k3 D (.lst ([.ref r1, .ref r2, .ref r3] ++ [.ref r4]))) D = some (.lst [.ref r1, .ref r2, .ref r3, .ref r4]) := upd_same
      have a1 : (upd k3 D (.lst ([.ref r1, .ref r2, .ref r3] ++ [.ref r4]))) r1 = some (.tup [.int 0, .int 0]) := by rw [upd_ne n1]; exact e4 _ _ a1
      have a2 : (upd k3 D (.lst ([.ref r1, .ref r2, .ref r3] ++ [.ref r4]))) r2 = some (.tup [.int 0, .int 0]) := by rw [upd_ne n2]; exact e4 _ _ a2
      have a3 : (upd k3 D (.lst ([.ref r1, .ref r2, .ref r3] ++ [.ref r4]))) r3 = some (.tup [.int 0, .int 0]) := by rw [upd_ne n3]; exact e4 _ _ a3
      have a4 : (upd k3 D (.lst ([.ref r1, .ref r2, .ref r3] ++ [.ref r4]))) r4 = _ := (upd_ne n4).trans hr4
      generalize upd k3 D (.lst ([.ref r1, .ref r2, .ref r3] ++ [.ref r4])) = k12 at d4 a1 a2 a3 a4 ⊢
      clear hr4 nr4 e4 d3
      walk_at "w"
      refine ⟨show 2 ≤ 1000 by decide, fun t1 ht1 => ?_⟩
      have b1 : upd k12 t1 (.tup [.int 0, .int 0]) t1 = some (.tup [.int 0, .int 0]) := upd_same
      replace d4 := know (o := .tup [.int 0, .int 0]) ht1 d4
      replace a1 := know (o := .tup [.int 0, .int 0]) ht1 a1
      replace a2 := know (o := .tup [.int 0, .int 0]) ht1 a2
      replace a3 := know (o := .tup [.int 0, .int 0]) ht1 a3
      replace a4 := know (o := .tup [.int 0, .int 0]) ht1 a4
      generalize upd k12 t1 (.tup [.int 0, .int 0]) = k13 at b1 d4 a1 a2 a3 a4 ⊢
      walk_at "w"
      refine ⟨show 1 ≤ 1000 by decide, fun z1 hz1 => ?_⟩
      walk_at "w"
      refine r_repQ upd_same (by omega) (by omega) (show 1 * 3 ≤ 100000 by decide) fun z2 hz2 => ?_
      have c2 : upd (upd k13 z1 (.lst [.ref t1])) z2 (.lst (List.replicate (3 : Int).toNat [V.ref t1]).flatten) z2 = some (.lst [.ref t1, .ref t1, .ref t1]) := upd_same
      replace b1 := know (o := .lst (List.replicate (3 : Int).toNat [V.ref t1]).flatten) hz2 (know (o := .lst [.ref t1]) hz1 b1)
      replace d4 := know (o := .lst (List.replicate (3 : Int).toNat [V.ref t1]).flatten) hz2 (know (o := .lst [.ref t1]) hz1 d4)
      replace a1 := know (o := .lst (List.replicate (3 : Int).toNat [V.ref t1]).flatten) hz2 (know (o := .lst [.ref t1]) hz1 a1)
      replace a2 := know (o := .lst (List.replicate (3 : Int).toNat [V.ref t1]).flatten) hz2 (know (o := .lst [.ref t1]) hz1 a2)
      replace a3 := know (o := .lst (List.replicate (3 : Int).toNat [V.ref t1]).flatten) hz2 (know (o := .lst [.ref t1]) hz1 a3)
      replace a4 := know (o := .lst (List.replicate (3 : Int).toNat [V.ref t1]).flatten) hz2 (know (o := .lst [.ref t1]) hz1 a4)
      generalize upd (upd k13 z1 (.lst [.ref t1])) z2 (.lst (List.replicate (3 : Int).toNat [V.ref t1]).flatten) = k14 at c2 b1 d4 a1 a2 a3 a4 ⊢
      walk_at "w"
      refine ⟨show 1 ≤ 1000 by decide, fun y1 hy1 => ?_⟩
      walk_at "w"
      refine ⟨show 1 ≤ 1000 by decide, fun y2 hy2 => ?_⟩
      refine r_cat (know hy2 (know hy1 c2)) upd_same (show 3 + 1 ≤ 1000 by decide) fun y3 hy3 => ?_
      refine r_eq_d (d := .list [.tuple [.int 0, .int 0], .tuple [.int 0, .int 0], .tuple [.int 0, .int 0], .list [.str "from 1 by 399 at 0"]]) (e := .list [.tuple [.int 0, .int 0], .tuple [.int 0, .int 0], .tuple [.int 0, .int 0], .list [.str "from 1 by 399 at 0"]])
        (.lst (sql (know hy3 (know hy2 (know hy1 d4)))) (.cons (.tup (sqt (know hy3 (know hy2 (know hy1 a1)))) (dp_pair _ _)) (.cons (.tup (sqt (know hy3 (know hy2 (know hy1 a2)))) (dp_pair _ _)) (.cons (.tup (sqt (know hy3 (know hy2 (know hy1 a3)))) (dp_pair _ _)) (.cons (.lst (sql (know hy3 (know hy2 (know hy1 a4)))) (dp_strs ["from 1 by 399 at 0"])) .nil)))))
        (.lst (sql upd_same) (.cons (.tup (sqt (know hy3 (know hy2 (know hy1 b1)))) (dp_pair _ _)) (.cons (.tup (sqt (know hy3 (know hy2 (know hy1 b1)))) (dp_pair _ _)) (.cons (.tup (sqt (know hy3 (know hy2 (know hy1 b1)))) (dp_pair _ _)) (.cons (.lst (sql (know hy3 (know hy2 upd_same))) (dp_strs ["from 1 by 399 at 0"])) .nil)))))
        (by decide +kernel) (by decide +kernel) ?_
      rw [show PyData.eqv (.list [.tuple [.int 0, .int 0], .tuple [.int 0, .int 0], .tuple [.int 0, .int 0], .list [.str "from 1 by 399 at 0"]]) (.list [.tuple [.int 0, .int 0], .tuple [.int 0, .int 0], .tuple [.int 0, .int 0], .list [.str "from 1 by 399 at 0"]]) = true by decide +kernel]
      exact fun H' _ => h H'
end
/-- the law at its head -/
theorem law_at {l : PySem.W.OpenLaw} {w : World} {K : PySem.W.Frag} {mg : Str → Option Value} {h : Heap} {fa : Addr} (T : Tx K mg) (hfa : T.f_law = fa) (hc1 : PySem.W.CodeHd h T.cc_law T.tp_law)
    (hg1 : h.get? T.tp_law = some { cls := .none, data := .fields #[] }) (hn1 : K.lookup T.tp_law = none) : LawAtG l w K CX0 40 63 "script" mg fa h := by
  subst hfa
  refine ⟨T.d_law, [(T.cc_law, T.tp_law)], spLaw T, ?_, ?_, ?_, ?_, ?_, ?_⟩
  · intro p hp
    rcases List.mem_cons.mp hp with rfl | hp
    · exact hg1
    · cases hp
  · intro p hp
    rcases List.mem_cons.mp hp with rfl | hp
    · exact hn1
    · cases hp
  · intro p hp
    rcases List.mem_cons.mp hp with rfl | hp
    · exact hc1
    · cases hp
  · intro s u
    obtain ⟨oc, od, kV, doc, pm, an, cdv, ct, osl, hfd, _, _⟩ := T.F_law.ex
    rw [hfd]
    exact BindsTo.of_eq (by rfl)
  · intro H a nums hl hb ht hs
    refine ⟨a, nums, rfl, hs, tabs_new fun p hp => ?_, fun H' => rfl⟩
    rcases List.mem_cons.mp hp with rfl | hp
    · exact ht _ (.head _)
    · cases hp
  · intro base hK hNs ht
    exact ok_law T (ht _ (.head _))

end NN

namespace NN
open PySem PySem.Spec PyProof.Rows L2 LamX AW ClX
theorem all_mk {K : PySem.W.Frag} {h : Heap} {mg : Str → Option Value} {l : PySem.W.OpenLaw} {w : World} {fa : Addr} (hfa : mg "law" = some (.ref fa)) (X : K.In h) (G : h.Ns mainGlobals mg)
    {f_is_whole : Addr}
    {oc_is_whole : Value}
    {kV_is_whole : Value}
    {dc_is_whole : Value}
    {pm_is_whole : Value}
    {cd_is_whole : Value}
    {ct_is_whole : Value}
    {od_is_whole : Option Addr}
    {an_is_whole : Option Addr}
    {sl_is_whole : Array (Option Value)}
    {f_is_from : Addr}
    {oc_is_from : Value}
    {kV_is_from : Value}
    {dc_is_from : Value}
    {pm_is_from : Value}
    {cd_is_from : Value}
    {ct_is_from : Value}
    {od_is_from : Option Addr}
    {an_is_from : Option Addr}
    {sl_is_from : Array (Option Value)}
    {f_are_from : Addr}
    {oc_are_from : Value}
    {kV_are_from : Value}
    {dc_are_from : Value}
    {pm_are_from : Value}
    {cd_are_from : Value}
    {ct_are_from : Value}
    {od_are_from : Option Addr}
    {an_are_from : Option Addr}
    {sl_are_from : Array (Option Value)}
    {f_read_number : Addr}
    {oc_read_number : Value}
    {kV_read_number : Value}
    {dc_read_number : Value}
    {pm_read_number : Value}
    {cd_read_number : Value}
    {ct_read_number : Value}
    {od_read_number : Option Addr}
    {an_read_number : Option Addr}
    {sl_read_number : Array (Option Value)}
    {f_marked : Addr}
    {oc_marked : Value}
    {kV_marked : Value}
    {dc_marked : Value}
    {pm_marked : Value}
    {cd_marked : Value}
    {ct_marked : Value}
    {od_marked : Option Addr}
    {an_marked : Option Addr}
    {sl_marked : Array (Option Value)}
    {f_least_period : Addr}
    {oc_least_period : Value}
    {kV_least_period : Value}
    {dc_least_period : Value}
    {pm_least_period : Value}
    {cd_least_period : Value}
    {ct_least_period : Value}
    {od_least_period : Option Addr}
    {an_least_period : Option Addr}
    {sl_least_period : Array (Option Value)}
    {f_check_parts : Addr}
    {oc_check_parts : Value}
    {kV_check_parts : Value}
    {dc_check_parts : Value}
    {pm_check_parts : Value}
    {cd_check_parts : Value}
    {ct_check_parts : Value}
    {od_check_parts : Option Addr}
    {an_check_parts : Option Addr}
    {sl_check_parts : Array (Option Value)}
    {f_check_size : Addr}
    {oc_check_size : Value}
    {kV_check_size : Value}
    {dc_check_size : Value}
    {pm_check_size : Value}
    {cd_check_size : Value}
    {ct_check_size : Value}
    {od_check_size : Option Addr}
    {an_check_size : Option Addr}
    {sl_check_size : Array (Option Value)}
    {f_read_parts : Addr}
    {oc_read_parts : Value}
    {kV_read_parts : Value}
    {dc_read_parts : Value}
    {pm_read_parts : Value}
    {cd_read_parts : Value}
    {ct_read_parts : Value}
    {od_read_parts : Option Addr}
    {an_read_parts : Option Addr}
    {sl_read_parts : Array (Option Value)}
    {c_StayError : Addr}
    {c_BadLengths : Addr}
    {nm_BadLengths : Str}
    {q_BadLengths : Str}
    {N_BadLengths : Addr}
    {bs_BadLengths : List Value}
    {bm_BadLengths : List Value}
    {sn_BadLengths : List Str}
    {sub_BadLengths : List Value}
    {ab_BadLengths : Bool}
    {col_BadLengths : Option Bool}
    {dd_BadLengths : Option Addr}
    {m0_BadLengths : Option Value}
    {m1_BadLengths : Option Value}
    {m2_BadLengths : Option Value}
    {m3_BadLengths : Option Value}
    {m5_BadLengths : Option Value}
    {f_BadLengths___init__ : Addr}
    {oc_BadLengths___init__ : Value}
    {kV_BadLengths___init__ : Value}
    {dc_BadLengths___init__ : Value}
    {pm_BadLengths___init__ : Value}
    {cd_BadLengths___init__ : Value}
    {ct_BadLengths___init__ : Value}
    {od_BadLengths___init__ : Option Addr}
    {an_BadLengths___init__ : Option Addr}
    {sl_BadLengths___init__ : Array (Option Value)}
    {c_TooMany : Addr}
    {nm_TooMany : Str}
    {q_TooMany : Str}
    {N_TooMany : Addr}
    {bs_TooMany : List Value}
    {bm_TooMany : List Value}
    {sn_TooMany : List Str}
    {sub_TooMany : List Value}
    {ab_TooMany : Bool}
    {col_TooMany : Option Bool}
    {dd_TooMany : Option Addr}
    {m0_TooMany : Option Value}
    {m1_TooMany : Option Value}
    {m2_TooMany : Option Value}
    {m3_TooMany : Option Value}
    {m5_TooMany : Option Value}
    {f_TooMany___init__ : Addr}
    {oc_TooMany___init__ : Value}
    {kV_TooMany___init__ : Value}
    {dc_TooMany___init__ : Value}
    {pm_TooMany___init__ : Value}
    {cd_TooMany___init__ : Value}
    {ct_TooMany___init__ : Value}
    {od_TooMany___init__ : Option Addr}
    {an_TooMany___init__ : Option Addr}
    {sl_TooMany___init__ : Array (Option Value)}
    {c_BadText : Addr}
    {nm_BadText : Str}
    {q_BadText : Str}
    {N_BadText : Addr}
    {bs_BadText : List Value}
    {bm_BadText : List Value}
    {sn_BadText : List Str}
    {sub_BadText : List Value}
    {ab_BadText : Bool}
    {col_BadText : Option Bool}
    {dd_BadText : Option Addr}
    {m0_BadText : Option Value}
    {m1_BadText : Option Value}
    {m2_BadText : Option Value}
    {m3_BadText : Option Value}
    {m5_BadText : Option Value}
    {f_BadText___init__ : Addr}
    {oc_BadText___init__ : Value}
    {kV_BadText___init__ : Value}
    {dc_BadText___init__ : Value}
    {pm_BadText___init__ : Value}
    {cd_BadText___init__ : Value}
    {ct_BadText___init__ : Value}
    {od_BadText___init__ : Option Addr}
    {an_BadText___init__ : Option Addr}
    {sl_BadText___init__ : Array (Option Value)}
    {c_Lengths : Addr}
    {f_Lengths___init__ : Addr}
    {oc_Lengths___init__ : Value}
    {kV_Lengths___init__ : Value}
    {dc_Lengths___init__ : Value}
    {pm_Lengths___init__ : Value}
    {cd_Lengths___init__ : Value}
    {ct_Lengths___init__ : Value}
    {od_Lengths___init__ : Option Addr}
    {an_Lengths___init__ : Option Addr}
    {sl_Lengths___init__ : Array (Option Value)}
    {dt_Lengths___init__ : Addr}
    {tk_Lengths___init__ : Tok}
    {nt_Lengths___init__ : Nat}
    {ot_Lengths___init__ : Option Addr}
    {st_Lengths___init__ : Array (Option Value)}
    {dl_Lengths___init__ : Addr}
    {dr_Lengths___init__ : Addr}
    {ndl_Lengths___init__ : Nat}
    {odl_Lengths___init__ : Option Addr}
    {sdl_Lengths___init__ : Array (Option Value)}
    {ndr_Lengths___init__ : Nat}
    {odr_Lengths___init__ : Option Addr}
    {sdr_Lengths___init__ : Array (Option Value)}
    {f_Lengths___str__ : Addr}
    {oc_Lengths___str__ : Value}
    {kV_Lengths___str__ : Value}
    {dc_Lengths___str__ : Value}
    {pm_Lengths___str__ : Value}
    {cd_Lengths___str__ : Value}
    {ct_Lengths___str__ : Value}
    {od_Lengths___str__ : Option Addr}
    {an_Lengths___str__ : Option Addr}
    {sl_Lengths___str__ : Array (Option Value)}
    {f_Lengths_read : Addr}
    {p_Lengths_read : Addr}
    {rest_Lengths_read : List Value}
    {oc_Lengths_read : Value}
    {kV_Lengths_read : Value}
    {dc_Lengths_read : Value}
    {pm_Lengths_read : Value}
    {cd_Lengths_read : Value}
    {ct_Lengths_read : Value}
    {od_Lengths_read : Option Addr}
    {an_Lengths_read : Option Addr}
    {sl_Lengths_read : Array (Option Value)}
    {f_Lengths_none : Addr}
    {p_Lengths_none : Addr}
    {rest_Lengths_none : List Value}
    {oc_Lengths_none : Value}
    {kV_Lengths_none : Value}
    {dc_Lengths_none : Value}
    {pm_Lengths_none : Value}
    {cd_Lengths_none : Value}
    {ct_Lengths_none : Value}
    {od_Lengths_none : Option Addr}
    {an_Lengths_none : Option Addr}
    {sl_Lengths_none : Array (Option Value)}
    {f__law_pen : Addr}
    {oc__law_pen : Value}
    {kV__law_pen : Value}
    {dc__law_pen : Value}
    {pm__law_pen : Value}
    {cd__law_pen : Value}
    {ct__law_pen : Value}
    {od__law_pen : Option Addr}
    {an__law_pen : Option Addr}
    {sl__law_pen : Array (Option Value)}
    {f__law_draw : Addr}
    {oc__law_draw : Value}
    {kV__law_draw : Value}
    {dc__law_draw : Value}
    {pm__law_draw : Value}
    {cd__law_draw : Value}
    {ct__law_draw : Value}
    {od__law_draw : Option Addr}
    {an__law_draw : Option Addr}
    {sl__law_draw : Array (Option Value)}
    {f__law_pick : Addr}
    {oc__law_pick : Value}
    {kV__law_pick : Value}
    {dc__law_pick : Value}
    {pm__law_pick : Value}
    {cd__law_pick : Value}
    {ct__law_pick : Value}
    {od__law_pick : Option Addr}
    {an__law_pick : Option Addr}
    {sl__law_pick : Array (Option Value)}
    {f__law_line : Addr}
    {oc__law_line : Value}
    {kV__law_line : Value}
    {dc__law_line : Value}
    {pm__law_line : Value}
    {cd__law_line : Value}
    {ct__law_line : Value}
    {od__law_line : Option Addr}
    {an__law_line : Option Addr}
    {sl__law_line : Array (Option Value)}
    {f__law_number : Addr}
    {oc__law_number : Value}
    {kV__law_number : Value}
    {dc__law_number : Value}
    {pm__law_number : Value}
    {cd__law_number : Value}
    {ct__law_number : Value}
    {od__law_number : Option Addr}
    {an__law_number : Option Addr}
    {sl__law_number : Array (Option Value)}
    {f__law_rising : Addr}
    {oc__law_rising : Value}
    {kV__law_rising : Value}
    {dc__law_rising : Value}
    {pm__law_rising : Value}
    {cd__law_rising : Value}
    {ct__law_rising : Value}
    {od__law_rising : Option Addr}
    {an__law_rising : Option Addr}
    {sl__law_rising : Array (Option Value)}
    {f__law_is_least : Addr}
    {oc__law_is_least : Value}
    {kV__law_is_least : Value}
    {dc__law_is_least : Value}
    {pm__law_is_least : Value}
    {cd__law_is_least : Value}
    {ct__law_is_least : Value}
    {od__law_is_least : Option Addr}
    {an__law_is_least : Option Addr}
    {sl__law_is_least : Array (Option Value)}
    {f__law_is_text : Addr}
    {oc__law_is_text : Value}
    {kV__law_is_text : Value}
    {dc__law_is_text : Value}
    {pm__law_is_text : Value}
    {cd__law_is_text : Value}
    {ct__law_is_text : Value}
    {od__law_is_text : Option Addr}
    {an__law_is_text : Option Addr}
    {sl__law_is_text : Array (Option Value)}
    {f__law_bent : Addr}
    {oc__law_bent : Value}
    {kV__law_bent : Value}
    {dc__law_bent : Value}
    {pm__law_bent : Value}
    {cd__law_bent : Value}
    {ct__law_bent : Value}
    {od__law_bent : Option Addr}
    {an__law_bent : Option Addr}
    {sl__law_bent : Array (Option Value)}
    {f__law_heard : Addr}
    {oc__law_heard : Value}
    {kV__law_heard : Value}
    {dc__law_heard : Value}
    {pm__law_heard : Value}
    {cd__law_heard : Value}
    {ct__law_heard : Value}
    {od__law_heard : Option Addr}
    {an__law_heard : Option Addr}
    {sl__law_heard : Array (Option Value)}
    {f_law : Addr}
    {oc_law : Value}
    {kV_law : Value}
    {dc_law : Value}
    {pm_law : Value}
    {ct_law : Value}
    {od_law : Option Addr}
    {an_law : Option Addr}
    {sl_law : Array (Option Value)}
    {t_DIGITS : Tok}
    {t_Lengths_MOST : Tok}
    {cc_law : Addr}
    {tp_law : Addr}
    {cob_law : Obj}
    (a_is_whole : PySem.W.nsIn K mainGlobals "is_whole" = some (some (.ref f_is_whole)))
    (l_is_whole : K.lookup f_is_whole = some ⟨oc_is_whole, od_is_whole, .func (PySem.W.fnOf "is_whole" "is_whole" (defArgs s_is_whole) (defBody s_is_whole) (defScope s_is_whole) .none kV_is_whole dc_is_whole pm_is_whole an_is_whole cd_is_whole ct_is_whole), sl_is_whole⟩)
    (c_is_whole_ : PySem.W.codeIn K cd_is_whole "is_whole" = true)
    (k_is_whole : PySem.W.keepIn K (.ref f_is_whole) = true)
    (a_is_from : PySem.W.nsIn K mainGlobals "is_from" = some (some (.ref f_is_from)))
    (l_is_from : K.lookup f_is_from = some ⟨oc_is_from, od_is_from, .func (PySem.W.fnOf "is_from" "is_from" (defArgs s_is_from) (defBody s_is_from) (defScope s_is_from) .none kV_is_from dc_is_from pm_is_from an_is_from cd_is_from ct_is_from), sl_is_from⟩)
    (c_is_from_ : PySem.W.codeIn K cd_is_from "is_from" = true)
    (k_is_from : PySem.W.keepIn K (.ref f_is_from) = true)
    (a_are_from : PySem.W.nsIn K mainGlobals "are_from" = some (some (.ref f_are_from)))
    (l_are_from : K.lookup f_are_from = some ⟨oc_are_from, od_are_from, .func (PySem.W.fnOf "are_from" "are_from" (defArgs s_are_from) (defBody s_are_from) (defScope s_are_from) .none kV_are_from dc_are_from pm_are_from an_are_from cd_are_from ct_are_from), sl_are_from⟩)
    (c_are_from_ : PySem.W.codeIn K cd_are_from "are_from" = true)
    (k_are_from : PySem.W.keepIn K (.ref f_are_from) = true)
    (a_read_number : PySem.W.nsIn K mainGlobals "read_number" = some (some (.ref f_read_number)))
    (l_read_number : K.lookup f_read_number = some ⟨oc_read_number, od_read_number, .func (PySem.W.fnOf "read_number" "read_number" (defArgs s_read_number) (defBody s_read_number) (defScope s_read_number) .none kV_read_number dc_read_number pm_read_number an_read_number cd_read_number ct_read_number), sl_read_number⟩)
    (c_read_number_ : PySem.W.codeIn K cd_read_number "read_number" = true)
    (k_read_number : PySem.W.keepIn K (.ref f_read_number) = true)
    (a_marked : PySem.W.nsIn K mainGlobals "marked" = some (some (.ref f_marked)))
    (l_marked : K.lookup f_marked = some ⟨oc_marked, od_marked, .func (PySem.W.fnOf "marked" "marked" (defArgs s_marked) (defBody s_marked) (defScope s_marked) .none kV_marked dc_marked pm_marked an_marked cd_marked ct_marked), sl_marked⟩)
    (c_marked_ : PySem.W.codeIn K cd_marked "marked" = true)
    (k_marked : PySem.W.keepIn K (.ref f_marked) = true)
    (a_least_period : PySem.W.nsIn K mainGlobals "least_period" = some (some (.ref f_least_period)))
    (l_least_period : K.lookup f_least_period = some ⟨oc_least_period, od_least_period, .func (PySem.W.fnOf "least_period" "least_period" (defArgs s_least_period) (defBody s_least_period) (defScope s_least_period) .none kV_least_period dc_least_period pm_least_period an_least_period cd_least_period ct_least_period), sl_least_period⟩)
    (c_least_period_ : PySem.W.codeIn K cd_least_period "least_period" = true)
    (k_least_period : PySem.W.keepIn K (.ref f_least_period) = true)
    (a_check_parts : PySem.W.nsIn K mainGlobals "check_parts" = some (some (.ref f_check_parts)))
    (l_check_parts : K.lookup f_check_parts = some ⟨oc_check_parts, od_check_parts, .func (PySem.W.fnOf "check_parts" "check_parts" (defArgs s_check_parts) (defBody s_check_parts) (defScope s_check_parts) .none kV_check_parts dc_check_parts pm_check_parts an_check_parts cd_check_parts ct_check_parts), sl_check_parts⟩)
    (c_check_parts_ : PySem.W.codeIn K cd_check_parts "check_parts" = true)
    (k_check_parts : PySem.W.keepIn K (.ref f_check_parts) = true)
    (a_check_size : PySem.W.nsIn K mainGlobals "check_size" = some (some (.ref f_check_size)))
    (l_check_size : K.lookup f_check_size = some ⟨oc_check_size, od_check_size, .func (PySem.W.fnOf "check_size" "check_size" (defArgs s_check_size) (defBody s_check_size) (defScope s_check_size) .none kV_check_size dc_check_size pm_check_size an_check_size cd_check_size ct_check_size), sl_check_size⟩)
    (c_check_size_ : PySem.W.codeIn K cd_check_size "check_size" = true)
    (k_check_size : PySem.W.keepIn K (.ref f_check_size) = true)
    (a_read_parts : PySem.W.nsIn K mainGlobals "read_parts" = some (some (.ref f_read_parts)))
    (l_read_parts : K.lookup f_read_parts = some ⟨oc_read_parts, od_read_parts, .func (PySem.W.fnOf "read_parts" "read_parts" (defArgs s_read_parts) (defBody s_read_parts) (defScope s_read_parts) .none kV_read_parts dc_read_parts pm_read_parts an_read_parts cd_read_parts ct_read_parts), sl_read_parts⟩)
    (c_read_parts_ : PySem.W.codeIn K cd_read_parts "read_parts" = true)
    (k_read_parts : PySem.W.keepIn K (.ref f_read_parts) = true)
    (a_StayError : PySem.W.nsIn K mainGlobals "StayError" = some (some (.ref c_StayError)))
    (a_BadLengths : PySem.W.nsIn K mainGlobals "BadLengths" = some (some (.ref c_BadLengths)))
    (h_BadLengths_l : K.lookup c_BadLengths = some (excClassObj nm_BadLengths q_BadLengths c_BadLengths N_BadLengths bs_BadLengths bm_BadLengths true sn_BadLengths sub_BadLengths ab_BadLengths col_BadLengths dd_BadLengths m0_BadLengths m1_BadLengths m2_BadLengths m3_BadLengths m5_BadLengths "ValueError.__new__"))
    (h_BadLengths_bm : PySem.HandSPX.refsVE bm_BadLengths = true)
    (h_BadLengths_sa : PySem.W.findIn K (.ref c_BadLengths) "__setattr__" = some (some (.builtin "object.__setattr__")))
    (h_BadLengths_ex : PySem.W.subIn K (.ref c_BadLengths) (.type "BaseException") = some true)
    (h_BadLengths_ty : PySem.W.typeIn K (.ref c_BadLengths) = some (.type "type"))
    (h_BadLengths_kp : PySem.W.keepIn K (.ref c_BadLengths) = true)
    (h_BadLengths_ga : PySem.W.findIn K (.ref c_BadLengths) "__getattribute__" = some (some (.builtin "BaseException.__getattribute__")))
    (h_BadLengths_gg : PySem.W.findIn K (.ref c_BadLengths) "__getattr__" = some none)
    (h_BadLengths_hd : PySem.W.hasDictIn K c_BadLengths = true)
    (h_BadLengths_cls : PySem.W.findIn K (.ref c_BadLengths) "__class__" = some (some (.builtin "object.__class__")))
    (h_BadLengths_mro : PySem.W.mroIn K c_BadLengths (.type "object") = some true)
    (h_cget : PySem.W.specialIn K (.builtin "object.__class__") "__get__" = some (some (.builtin "getset_descriptor.__get__")))
    (h_ctak : PySem.W.takesIn K (.builtin "object.__class__") = some true)
    (h_nx_BadLengths_part : PySem.W.findIn K (.ref c_BadLengths) "part" = some none)
    (a_BadLengths___init__ : PySem.W.findIn K (.ref c_BadLengths) "__init__" = some (some (.ref f_BadLengths___init__)))
    (i_BadLengths___init__ : PySem.W.isFn K (.ref f_BadLengths___init__) = true)
    (l_BadLengths___init__ : K.lookup f_BadLengths___init__ = some ⟨oc_BadLengths___init__, od_BadLengths___init__, .func (PySem.W.fnOf "__init__" "BadLengths.__init__" (defArgs s_BadLengths___init__) (defBody s_BadLengths___init__) (defScope s_BadLengths___init__) .none kV_BadLengths___init__ dc_BadLengths___init__ pm_BadLengths___init__ an_BadLengths___init__ cd_BadLengths___init__ ct_BadLengths___init__), sl_BadLengths___init__⟩)
    (c_BadLengths___init___ : PySem.W.codeIn K cd_BadLengths___init__ "BadLengths.__init__" = true)
    (k_BadLengths___init__ : PySem.W.keepIn K (.ref f_BadLengths___init__) = true)
    (t_BadLengths___init__ : PySem.W.typeIn K (.ref f_BadLengths___init__) = some (.type "function"))
    (a_TooMany : PySem.W.nsIn K mainGlobals "TooMany" = some (some (.ref c_TooMany)))
    (h_TooMany_l : K.lookup c_TooMany = some (excClassObj nm_TooMany q_TooMany c_TooMany N_TooMany bs_TooMany bm_TooMany true sn_TooMany sub_TooMany ab_TooMany col_TooMany dd_TooMany m0_TooMany m1_TooMany m2_TooMany m3_TooMany m5_TooMany "ValueError.__new__"))
    (h_TooMany_bm : PySem.HandSPX.refsVE bm_TooMany = true)
    (h_TooMany_sa : PySem.W.findIn K (.ref c_TooMany) "__setattr__" = some (some (.builtin "object.__setattr__")))
    (h_TooMany_ex : PySem.W.subIn K (.ref c_TooMany) (.type "BaseException") = some true)
    (h_TooMany_ty : PySem.W.typeIn K (.ref c_TooMany) = some (.type "type"))
    (h_TooMany_kp : PySem.W.keepIn K (.ref c_TooMany) = true)
    (h_TooMany_ga : PySem.W.findIn K (.ref c_TooMany) "__getattribute__" = some (some (.builtin "BaseException.__getattribute__")))
    (h_TooMany_gg : PySem.W.findIn K (.ref c_TooMany) "__getattr__" = some none)
    (h_TooMany_hd : PySem.W.hasDictIn K c_TooMany = true)
    (h_TooMany_cls : PySem.W.findIn K (.ref c_TooMany) "__class__" = some (some (.builtin "object.__class__")))
    (h_TooMany_mro : PySem.W.mroIn K c_TooMany (.type "object") = some true)
    (h_nx_TooMany_what : PySem.W.findIn K (.ref c_TooMany) "what" = some none)
    (h_nx_TooMany_most : PySem.W.findIn K (.ref c_TooMany) "most" = some none)
    (a_TooMany___init__ : PySem.W.findIn K (.ref c_TooMany) "__init__" = some (some (.ref f_TooMany___init__)))
    (i_TooMany___init__ : PySem.W.isFn K (.ref f_TooMany___init__) = true)
    (l_TooMany___init__ : K.lookup f_TooMany___init__ = some ⟨oc_TooMany___init__, od_TooMany___init__, .func (PySem.W.fnOf "__init__" "TooMany.__init__" (defArgs s_TooMany___init__) (defBody s_TooMany___init__) (defScope s_TooMany___init__) .none kV_TooMany___init__ dc_TooMany___init__ pm_TooMany___init__ an_TooMany___init__ cd_TooMany___init__ ct_TooMany___init__), sl_TooMany___init__⟩)
    (c_TooMany___init___ : PySem.W.codeIn K cd_TooMany___init__ "TooMany.__init__" = true)
    (k_TooMany___init__ : PySem.W.keepIn K (.ref f_TooMany___init__) = true)
    (t_TooMany___init__ : PySem.W.typeIn K (.ref f_TooMany___init__) = some (.type "function"))
    (a_BadText : PySem.W.nsIn K mainGlobals "BadText" = some (some (.ref c_BadText)))
    (h_BadText_l : K.lookup c_BadText = some (excClassObj nm_BadText q_BadText c_BadText N_BadText bs_BadText bm_BadText true sn_BadText sub_BadText ab_BadText col_BadText dd_BadText m0_BadText m1_BadText m2_BadText m3_BadText m5_BadText "ValueError.__new__"))
    (h_BadText_bm : PySem.HandSPX.refsVE bm_BadText = true)
    (h_BadText_sa : PySem.W.findIn K (.ref c_BadText) "__setattr__" = some (some (.builtin "object.__setattr__")))
    (h_BadText_ex : PySem.W.subIn K (.ref c_BadText) (.type "BaseException") = some true)
    (h_BadText_ty : PySem.W.typeIn K (.ref c_BadText) = some (.type "type"))
    (h_BadText_kp : PySem.W.keepIn K (.ref c_BadText) = true)
    (h_BadText_ga : PySem.W.findIn K (.ref c_BadText) "__getattribute__" = some (some (.builtin "BaseException.__getattribute__")))
    (h_BadText_gg : PySem.W.findIn K (.ref c_BadText) "__getattr__" = some none)
    (h_BadText_hd : PySem.W.hasDictIn K c_BadText = true)
    (h_BadText_cls : PySem.W.findIn K (.ref c_BadText) "__class__" = some (some (.builtin "object.__class__")))
    (h_BadText_mro : PySem.W.mroIn K c_BadText (.type "object") = some true)
    (h_nx_BadText_line : PySem.W.findIn K (.ref c_BadText) "line" = some none)
    (h_nx_BadText_word : PySem.W.findIn K (.ref c_BadText) "word" = some none)
    (a_BadText___init__ : PySem.W.findIn K (.ref c_BadText) "__init__" = some (some (.ref f_BadText___init__)))
    (i_BadText___init__ : PySem.W.isFn K (.ref f_BadText___init__) = true)
    (l_BadText___init__ : K.lookup f_BadText___init__ = some ⟨oc_BadText___init__, od_BadText___init__, .func (PySem.W.fnOf "__init__" "BadText.__init__" (defArgs s_BadText___init__) (defBody s_BadText___init__) (defScope s_BadText___init__) .none kV_BadText___init__ dc_BadText___init__ pm_BadText___init__ an_BadText___init__ cd_BadText___init__ ct_BadText___init__), sl_BadText___init__⟩)
    (c_BadText___init___ : PySem.W.codeIn K cd_BadText___init__ "BadText.__init__" = true)
    (k_BadText___init__ : PySem.W.keepIn K (.ref f_BadText___init__) = true)
    (t_BadText___init__ : PySem.W.typeIn K (.ref f_BadText___init__) = some (.type "function"))
    (a_Lengths : PySem.W.nsIn K mainGlobals "Lengths" = some (some (.ref c_Lengths)))
    (h_Lengths_pg : PySem.W.plainGet K c_Lengths Str.empty = true)
    (h_Lengths_hd : PySem.W.hasDictIn K c_Lengths = true)
    (h_Lengths_po : PySem.W.plainOver K c_Lengths = true)
    (h_Lengths_sa : PySem.W.findIn K (.ref c_Lengths) "__setattr__" = some (some (.builtin "object.__setattr__")))
    (h_Lengths_cls : PySem.W.findIn K (.ref c_Lengths) "__class__" = some (some (.builtin "object.__class__")))
    (h_Lengths_get : PySem.W.specialIn K (.builtin "object.__class__") "__get__" = some (some (.builtin "getset_descriptor.__get__")))
    (h_Lengths_tak : PySem.W.takesIn K (.builtin "object.__class__") = some true)
    (h_Lengths_mro : PySem.W.mroIn K c_Lengths (.type "object") = some true)
    (h_na_Lengths__start : PySem.W.findIn K (.ref c_Lengths) "_start" = some none)
    (h_na_Lengths__period : PySem.W.findIn K (.ref c_Lengths) "_period" = some none)
    (h_na_Lengths__low : PySem.W.findIn K (.ref c_Lengths) "_low" = some none)
    (h_na_Lengths__rests : PySem.W.findIn K (.ref c_Lengths) "_rests" = some none)
    (h_na_Lengths__marks : PySem.W.findIn K (.ref c_Lengths) "_marks" = some none)
    (h_Lengths_mk : PySem.W.makesIn K c_Lengths = true)
    (h_Lengths_kp : PySem.W.keepIn K (.ref c_Lengths) = true)
    (a_Lengths___init__ : PySem.W.findIn K (.ref c_Lengths) "__init__" = some (some (.ref f_Lengths___init__)))
    (i_Lengths___init__ : PySem.W.isFn K (.ref f_Lengths___init__) = true)
    (l_Lengths___init__ : K.lookup f_Lengths___init__ = some ⟨oc_Lengths___init__, od_Lengths___init__, .func (PySem.W.fnOf "__init__" "Lengths.__init__" (defArgs s_Lengths___init__) (defBody s_Lengths___init__) (defScope s_Lengths___init__) (.ref dt_Lengths___init__) kV_Lengths___init__ dc_Lengths___init__ pm_Lengths___init__ an_Lengths___init__ cd_Lengths___init__ ct_Lengths___init__), sl_Lengths___init__⟩)
    (c_Lengths___init___ : PySem.W.codeIn K cd_Lengths___init__ "Lengths.__init__" = true)
    (k_Lengths___init__ : PySem.W.keepIn K (.ref f_Lengths___init__) = true)
    (lt_Lengths___init__ : K.lookup dt_Lengths___init__ = some ⟨.type "tuple", ot_Lengths___init__, .seq #[.ref dl_Lengths___init__, .int 1 tk_Lengths___init__, .ref dr_Lengths___init__] nt_Lengths___init__, st_Lengths___init__⟩)
    (ldl_Lengths___init__ : K.lookup dl_Lengths___init__ = some ⟨.type "tuple", odl_Lengths___init__, .seq #[] ndl_Lengths___init__, sdl_Lengths___init__⟩)
    (ldr_Lengths___init__ : K.lookup dr_Lengths___init__ = some ⟨.type "tuple", odr_Lengths___init__, .seq #[] ndr_Lengths___init__, sdr_Lengths___init__⟩)
    (a_Lengths___str__ : PySem.W.findIn K (.ref c_Lengths) "__str__" = some (some (.ref f_Lengths___str__)))
    (i_Lengths___str__ : PySem.W.isFn K (.ref f_Lengths___str__) = true)
    (l_Lengths___str__ : K.lookup f_Lengths___str__ = some ⟨oc_Lengths___str__, od_Lengths___str__, .func (PySem.W.fnOf "__str__" "Lengths.__str__" (defArgs s_Lengths___str__) (defBody s_Lengths___str__) (defScope s_Lengths___str__) .none kV_Lengths___str__ dc_Lengths___str__ pm_Lengths___str__ an_Lengths___str__ cd_Lengths___str__ ct_Lengths___str__), sl_Lengths___str__⟩)
    (c_Lengths___str___ : PySem.W.codeIn K cd_Lengths___str__ "Lengths.__str__" = true)
    (k_Lengths___str__ : PySem.W.keepIn K (.ref f_Lengths___str__) = true)
    (h_Lengths_rd : PySem.W.readsIn K c_Lengths (.type "type") = true)
    (h_Lengths_tg : PySem.W.specialIn K (.ref c_Lengths) "__getattribute__" = some (some (.builtin "type.__getattribute__")))
    (ca_Lengths_read : PySem.W.findCls K (.ref c_Lengths) (.type "type") "read" = some (.get (.builtin "classmethod.__get__") (.ref p_Lengths_read) .none (.ref c_Lengths)))
    (cr_Lengths_read : PySem.W.recIn K p_Lengths_read "classmethod" = some (.ref f_Lengths_read :: rest_Lengths_read))
    (cf_Lengths_read : PySem.W.fnIn K f_Lengths_read = true)
    (l_Lengths_read : K.lookup f_Lengths_read = some ⟨oc_Lengths_read, od_Lengths_read, .func (PySem.W.fnOf "read" "Lengths.read" (defArgs s_Lengths_read) (defBody s_Lengths_read) (defScope s_Lengths_read) .none kV_Lengths_read dc_Lengths_read pm_Lengths_read an_Lengths_read cd_Lengths_read ct_Lengths_read), sl_Lengths_read⟩)
    (c_Lengths_read_ : PySem.W.codeIn K cd_Lengths_read "Lengths.read" = true)
    (k_Lengths_read : PySem.W.keepIn K (.ref f_Lengths_read) = true)
    (ca_Lengths_none : PySem.W.findCls K (.ref c_Lengths) (.type "type") "none" = some (.get (.builtin "staticmethod.__get__") (.ref p_Lengths_none) .none (.ref c_Lengths)))
    (cr_Lengths_none : PySem.W.recIn K p_Lengths_none "staticmethod" = some (.ref f_Lengths_none :: rest_Lengths_none))
    (l_Lengths_none : K.lookup f_Lengths_none = some ⟨oc_Lengths_none, od_Lengths_none, .func (PySem.W.fnOf "none" "Lengths.none" (defArgs s_Lengths_none) (defBody s_Lengths_none) (defScope s_Lengths_none) .none kV_Lengths_none dc_Lengths_none pm_Lengths_none an_Lengths_none cd_Lengths_none ct_Lengths_none), sl_Lengths_none⟩)
    (c_Lengths_none_ : PySem.W.codeIn K cd_Lengths_none "Lengths.none" = true)
    (k_Lengths_none : PySem.W.keepIn K (.ref f_Lengths_none) = true)
    (h_exm_BadText : PySem.W.exmOne K (.ref c_BadText) (.ref c_StayError) = some true)
    (h_exm_BadText_BL : PySem.W.exmOne K (.ref c_BadText) (.ref c_BadLengths) = some false)
    (h_exm_BadText_TM : PySem.W.exmOne K (.ref c_BadText) (.ref c_TooMany) = some false)
    (h_exm_BadLengths_BL : PySem.W.exmOne K (.ref c_BadLengths) (.ref c_BadLengths) = some true)
    (h_exm_BadLengths_TM : PySem.W.exmOne K (.ref c_BadLengths) (.ref c_TooMany) = some false)
    (h_exm_TooMany_BL : PySem.W.exmOne K (.ref c_TooMany) (.ref c_BadLengths) = some false)
    (h_exm_TooMany_TM : PySem.W.exmOne K (.ref c_TooMany) (.ref c_TooMany) = some true)
    (h_kit_BadText : PySem.W.kitOne K (.ref c_BadText) (.ref c_BadText) = some true)
    (h_kit_Lengths : PySem.W.kitOne K (.ref c_Lengths) (.ref c_Lengths) = some true)
    (h_kit_Lengths_str : PySem.W.kitOne K (.ref c_Lengths) (.type "str") = some false)
    (a__law_pen : PySem.W.nsIn K mainGlobals "_law_pen" = some (some (.ref f__law_pen)))
    (l__law_pen : K.lookup f__law_pen = some ⟨oc__law_pen, od__law_pen, .func (PySem.W.fnOf "_law_pen" "_law_pen" (defArgs s__law_pen) (defBody s__law_pen) (defScope s__law_pen) .none kV__law_pen dc__law_pen pm__law_pen an__law_pen cd__law_pen ct__law_pen), sl__law_pen⟩)
    (c__law_pen_ : PySem.W.codeIn K cd__law_pen "_law_pen" = true)
    (k__law_pen : PySem.W.keepIn K (.ref f__law_pen) = true)
    (a__law_draw : PySem.W.nsIn K mainGlobals "_law_draw" = some (some (.ref f__law_draw)))
    (l__law_draw : K.lookup f__law_draw = some ⟨oc__law_draw, od__law_draw, .func (PySem.W.fnOf "_law_draw" "_law_draw" (defArgs s__law_draw) (defBody s__law_draw) (defScope s__law_draw) .none kV__law_draw dc__law_draw pm__law_draw an__law_draw cd__law_draw ct__law_draw), sl__law_draw⟩)
    (c__law_draw_ : PySem.W.codeIn K cd__law_draw "_law_draw" = true)
    (k__law_draw : PySem.W.keepIn K (.ref f__law_draw) = true)
    (a__law_pick : PySem.W.nsIn K mainGlobals "_law_pick" = some (some (.ref f__law_pick)))
    (l__law_pick : K.lookup f__law_pick = some ⟨oc__law_pick, od__law_pick, .func (PySem.W.fnOf "_law_pick" "_law_pick" (defArgs s__law_pick) (defBody s__law_pick) (defScope s__law_pick) .none kV__law_pick dc__law_pick pm__law_pick an__law_pick cd__law_pick ct__law_pick), sl__law_pick⟩)
    (c__law_pick_ : PySem.W.codeIn K cd__law_pick "_law_pick" = true)
    (k__law_pick : PySem.W.keepIn K (.ref f__law_pick) = true)
    (a__law_line : PySem.W.nsIn K mainGlobals "_law_line" = some (some (.ref f__law_line)))
    (l__law_line : K.lookup f__law_line = some ⟨oc__law_line, od__law_line, .func (PySem.W.fnOf "_law_line" "_law_line" (defArgs s__law_line) (defBody s__law_line) (defScope s__law_line) .none kV__law_line dc__law_line pm__law_line an__law_line cd__law_line ct__law_line), sl__law_line⟩)
    (c__law_line_ : PySem.W.codeIn K cd__law_line "_law_line" = true)
    (k__law_line : PySem.W.keepIn K (.ref f__law_line) = true)
    (a__law_number : PySem.W.nsIn K mainGlobals "_law_number" = some (some (.ref f__law_number)))
    (l__law_number : K.lookup f__law_number = some ⟨oc__law_number, od__law_number, .func (PySem.W.fnOf "_law_number" "_law_number" (defArgs s__law_number) (defBody s__law_number) (defScope s__law_number) .none kV__law_number dc__law_number pm__law_number an__law_number cd__law_number ct__law_number), sl__law_number⟩)
    (c__law_number_ : PySem.W.codeIn K cd__law_number "_law_number" = true)
    (k__law_number : PySem.W.keepIn K (.ref f__law_number) = true)
    (a__law_rising : PySem.W.nsIn K mainGlobals "_law_rising" = some (some (.ref f__law_rising)))
    (l__law_rising : K.lookup f__law_rising = some ⟨oc__law_rising, od__law_rising, .func (PySem.W.fnOf "_law_rising" "_law_rising" (defArgs s__law_rising) (defBody s__law_rising) (defScope s__law_rising) .none kV__law_rising dc__law_rising pm__law_rising an__law_rising cd__law_rising ct__law_rising), sl__law_rising⟩)
    (c__law_rising_ : PySem.W.codeIn K cd__law_rising "_law_rising" = true)
    (k__law_rising : PySem.W.keepIn K (.ref f__law_rising) = true)
    (a__law_is_least : PySem.W.nsIn K mainGlobals "_law_is_least" = some (some (.ref f__law_is_least)))
    (l__law_is_least : K.lookup f__law_is_least = some ⟨oc__law_is_least, od__law_is_least, .func (PySem.W.fnOf "_law_is_least" "_law_is_least" (defArgs s__law_is_least) (defBody s__law_is_least) (defScope s__law_is_least) .none kV__law_is_least dc__law_is_least pm__law_is_least an__law_is_least cd__law_is_least ct__law_is_least), sl__law_is_least⟩)
    (c__law_is_least_ : PySem.W.codeIn K cd__law_is_least "_law_is_least" = true)
    (k__law_is_least : PySem.W.keepIn K (.ref f__law_is_least) = true)
    (a__law_is_text : PySem.W.nsIn K mainGlobals "_law_is_text" = some (some (.ref f__law_is_text)))
    (l__law_is_text : K.lookup f__law_is_text = some ⟨oc__law_is_text, od__law_is_text, .func (PySem.W.fnOf "_law_is_text" "_law_is_text" (defArgs s__law_is_text) (defBody s__law_is_text) (defScope s__law_is_text) .none kV__law_is_text dc__law_is_text pm__law_is_text an__law_is_text cd__law_is_text ct__law_is_text), sl__law_is_text⟩)
    (c__law_is_text_ : PySem.W.codeIn K cd__law_is_text "_law_is_text" = true)
    (k__law_is_text : PySem.W.keepIn K (.ref f__law_is_text) = true)
    (a__law_bent : PySem.W.nsIn K mainGlobals "_law_bent" = some (some (.ref f__law_bent)))
    (l__law_bent : K.lookup f__law_bent = some ⟨oc__law_bent, od__law_bent, .func (PySem.W.fnOf "_law_bent" "_law_bent" (defArgs s__law_bent) (defBody s__law_bent) (defScope s__law_bent) .none kV__law_bent dc__law_bent pm__law_bent an__law_bent cd__law_bent ct__law_bent), sl__law_bent⟩)
    (c__law_bent_ : PySem.W.codeIn K cd__law_bent "_law_bent" = true)
    (k__law_bent : PySem.W.keepIn K (.ref f__law_bent) = true)
    (a__law_heard : PySem.W.nsIn K mainGlobals "_law_heard" = some (some (.ref f__law_heard)))
    (l__law_heard : K.lookup f__law_heard = some ⟨oc__law_heard, od__law_heard, .func (PySem.W.fnOf "_law_heard" "_law_heard" (defArgs s__law_heard) (defBody s__law_heard) (defScope s__law_heard) .none kV__law_heard dc__law_heard pm__law_heard an__law_heard cd__law_heard ct__law_heard), sl__law_heard⟩)
    (c__law_heard_ : PySem.W.codeIn K cd__law_heard "_law_heard" = true)
    (k__law_heard : PySem.W.keepIn K (.ref f__law_heard) = true)
    (a_law : PySem.W.nsIn K mainGlobals "law" = some (some (.ref f_law)))
    (l_law : K.lookup f_law = some ⟨oc_law, od_law, .func (PySem.W.fnOf "law" "law" (defArgs s_law) (defBody s_law) (defScope s_law) .none kV_law dc_law pm_law an_law (.ref cc_law) ct_law), sl_law⟩)
    (c_law_ : PySem.W.codeIn K (.ref cc_law) "law" = true)
    (k_law : PySem.W.keepIn K (.ref f_law) = true)
    (z_isinstance : PySem.W.nsIn K mainGlobals "isinstance" = some none)
    (z_int : PySem.W.nsIn K mainGlobals "int" = some none)
    (z_bool : PySem.W.nsIn K mainGlobals "bool" = some none)
    (z_len : PySem.W.nsIn K mainGlobals "len" = some none)
    (z_tuple : PySem.W.nsIn K mainGlobals "tuple" = some none)
    (z_range : PySem.W.nsIn K mainGlobals "range" = some none)
    (z_list : PySem.W.nsIn K mainGlobals "list" = some none)
    (z_abs : PySem.W.nsIn K mainGlobals "abs" = some none)
    (z_str : PySem.W.nsIn K mainGlobals "str" = some none)
    (z_all : PySem.W.nsIn K mainGlobals "all" = some none)
    (z_zip : PySem.W.nsIn K mainGlobals "zip" = some none)
    (a_DIGITS : PySem.W.nsIn K mainGlobals "DIGITS" = some (some (.int 12 t_DIGITS)))
    (h_Lengths_MOST : PySem.W.findCls K (.ref c_Lengths) (.type "type") "MOST" = some (.val (.int 400 t_Lengths_MOST)))
    (hc_law : K.lookup cc_law = some cob_law)
    (ht_law : codeTab cob_law = some tp_law)
    (hb_law : codeB cob_law cc_law tp_law = true)
    (hg_law : h.get? tp_law = some { cls := .none, data := .fields #[] })
    (hn_law : K.lookup tp_law = none)
    : LawAtG l w K CX0 40 63 "script" mg fa h := by
  have F_is_whole := fun_mk (st := s_is_whole) l_is_whole c_is_whole_ k_is_whole
  have F_is_from := fun_mk (st := s_is_from) l_is_from c_is_from_ k_is_from
  have F_are_from := fun_mk (st := s_are_from) l_are_from c_are_from_ k_are_from
  have F_read_number := fun_mk (st := s_read_number) l_read_number c_read_number_ k_read_number
  have F_marked := fun_mk (st := s_marked) l_marked c_marked_ k_marked
  have F_least_period := fun_mk (st := s_least_period) l_least_period c_least_period_ k_least_period
  have F_check_parts := fun_mk (st := s_check_parts) l_check_parts c_check_parts_ k_check_parts
  have F_check_size := fun_mk (st := s_check_size) l_check_size c_check_size_ k_check_size
  have F_read_parts := fun_mk (st := s_read_parts) l_read_parts c_read_parts_ k_read_parts
  have F_BadLengths___init__ := fun_mk (st := s_BadLengths___init__) l_BadLengths___init__ c_BadLengths___init___ k_BadLengths___init__
  have F_TooMany___init__ := fun_mk (st := s_TooMany___init__) l_TooMany___init__ c_TooMany___init___ k_TooMany___init__
  have F_BadText___init__ := fun_mk (st := s_BadText___init__) l_BadText___init__ c_BadText___init___ k_BadText___init__
  have F_Lengths___init__ : FunD K "__init__" "Lengths.__init__" (defArgs s_Lengths___init__) (defBody s_Lengths___init__) (defScope s_Lengths___init__) [.ref dl_Lengths___init__, .int 1, .ref dr_Lengths___init__] [] f_Lengths___init__ _ := ⟨⟨oc_Lengths___init__, od_Lengths___init__, .ref dt_Lengths___init__, kV_Lengths___init__, dc_Lengths___init__, pm_Lengths___init__, an_Lengths___init__, cd_Lengths___init__, ct_Lengths___init__, sl_Lengths___init__, rfl, l_Lengths___init__, c_Lengths___init___, .inr ⟨by simp, dt_Lengths___init__, _, [.ref dl_Lengths___init__, .int 1 tk_Lengths___init__, .ref dr_Lengths___init__], nt_Lengths___init__, rfl, lt_Lengths___init__, rfl, .cons rfl (.cons ⟨_, rfl⟩ (.cons rfl .nil))⟩, .inl rfl⟩, k_Lengths___init__⟩
  have F_Lengths___str__ := fun_mk (st := s_Lengths___str__) l_Lengths___str__ c_Lengths___str___ k_Lengths___str__
  have F_Lengths_read := fun_mk (st := s_Lengths_read) l_Lengths_read c_Lengths_read_ k_Lengths_read
  have F_Lengths_none := fun_mk (st := s_Lengths_none) l_Lengths_none c_Lengths_none_ k_Lengths_none
  have F__law_pen := fun_mk (st := s__law_pen) l__law_pen c__law_pen_ k__law_pen
  have F__law_draw := fun_mk (st := s__law_draw) l__law_draw c__law_draw_ k__law_draw
  have F__law_pick := fun_mk (st := s__law_pick) l__law_pick c__law_pick_ k__law_pick
  have F__law_line := fun_mk (st := s__law_line) l__law_line c__law_line_ k__law_line
  have F__law_number := fun_mk (st := s__law_number) l__law_number c__law_number_ k__law_number
  have F__law_rising := fun_mk (st := s__law_rising) l__law_rising c__law_rising_ k__law_rising
  have F__law_is_least := fun_mk (st := s__law_is_least) l__law_is_least c__law_is_least_ k__law_is_least
  have F__law_is_text := fun_mk (st := s__law_is_text) l__law_is_text c__law_is_text_ k__law_is_text
  have F__law_bent := fun_mk (st := s__law_bent) l__law_bent c__law_bent_ k__law_bent
  have F__law_heard := fun_mk (st := s__law_heard) l__law_heard c__law_heard_ k__law_heard
  have F_law := fun_mk (st := s_law) l_law c_law_ k_law
  have e0 := PySem.W.codeHd_of_K X (codeB_in hc_law hb_law)
  have ef : f_law = fa := Value.ref.inj (Option.some.inj ((PySem.W.mg_of X G a_law).symm.trans hfa))
  exact law_at (T := {
    f_is_whole := f_is_whole
    d_is_whole := PySem.W.fnOf "is_whole" "is_whole" (defArgs s_is_whole) (defBody s_is_whole) (defScope s_is_whole) .none kV_is_whole dc_is_whole pm_is_whole an_is_whole cd_is_whole ct_is_whole
    f_is_from := f_is_from
    d_is_from := PySem.W.fnOf "is_from" "is_from" (defArgs s_is_from) (defBody s_is_from) (defScope s_is_from) .none kV_is_from dc_is_from pm_is_from an_is_from cd_is_from ct_is_from
    f_are_from := f_are_from
    d_are_from := PySem.W.fnOf "are_from" "are_from" (defArgs s_are_from) (defBody s_are_from) (defScope s_are_from) .none kV_are_from dc_are_from pm_are_from an_are_from cd_are_from ct_are_from
    f_read_number := f_read_number
    d_read_number := PySem.W.fnOf "read_number" "read_number" (defArgs s_read_number) (defBody s_read_number) (defScope s_read_number) .none kV_read_number dc_read_number pm_read_number an_read_number cd_read_number ct_read_number
    f_marked := f_marked
    d_marked := PySem.W.fnOf "marked" "marked" (defArgs s_marked) (defBody s_marked) (defScope s_marked) .none kV_marked dc_marked pm_marked an_marked cd_marked ct_marked
    f_least_period := f_least_period
    d_least_period := PySem.W.fnOf "least_period" "least_period" (defArgs s_least_period) (defBody s_least_period) (defScope s_least_period) .none kV_least_period dc_least_period pm_least_period an_least_period cd_least_period ct_least_period
    f_check_parts := f_check_parts
    d_check_parts := PySem.W.fnOf "check_parts" "check_parts" (defArgs s_check_parts) (defBody s_check_parts) (defScope s_check_parts) .none kV_check_parts dc_check_parts pm_check_parts an_check_parts cd_check_parts ct_check_parts
    f_check_size := f_check_size
    d_check_size := PySem.W.fnOf "check_size" "check_size" (defArgs s_check_size) (defBody s_check_size) (defScope s_check_size) .none kV_check_size dc_check_size pm_check_size an_check_size cd_check_size ct_check_size
    f_read_parts := f_read_parts
    d_read_parts := PySem.W.fnOf "read_parts" "read_parts" (defArgs s_read_parts) (defBody s_read_parts) (defScope s_read_parts) .none kV_read_parts dc_read_parts pm_read_parts an_read_parts cd_read_parts ct_read_parts
    c_StayError := c_StayError
    c_BadLengths := c_BadLengths
    f_BadLengths___init__ := f_BadLengths___init__
    d_BadLengths___init__ := PySem.W.fnOf "__init__" "BadLengths.__init__" (defArgs s_BadLengths___init__) (defBody s_BadLengths___init__) (defScope s_BadLengths___init__) .none kV_BadLengths___init__ dc_BadLengths___init__ pm_BadLengths___init__ an_BadLengths___init__ cd_BadLengths___init__ ct_BadLengths___init__
    c_TooMany := c_TooMany
    f_TooMany___init__ := f_TooMany___init__
    d_TooMany___init__ := PySem.W.fnOf "__init__" "TooMany.__init__" (defArgs s_TooMany___init__) (defBody s_TooMany___init__) (defScope s_TooMany___init__) .none kV_TooMany___init__ dc_TooMany___init__ pm_TooMany___init__ an_TooMany___init__ cd_TooMany___init__ ct_TooMany___init__
    c_BadText := c_BadText
    f_BadText___init__ := f_BadText___init__
    d_BadText___init__ := PySem.W.fnOf "__init__" "BadText.__init__" (defArgs s_BadText___init__) (defBody s_BadText___init__) (defScope s_BadText___init__) .none kV_BadText___init__ dc_BadText___init__ pm_BadText___init__ an_BadText___init__ cd_BadText___init__ ct_BadText___init__
    c_Lengths := c_Lengths
    f_Lengths___init__ := f_Lengths___init__
    d_Lengths___init__ := PySem.W.fnOf "__init__" "Lengths.__init__" (defArgs s_Lengths___init__) (defBody s_Lengths___init__) (defScope s_Lengths___init__) (.ref dt_Lengths___init__) kV_Lengths___init__ dc_Lengths___init__ pm_Lengths___init__ an_Lengths___init__ cd_Lengths___init__ ct_Lengths___init__
    dl_Lengths___init__ := dl_Lengths___init__
    dr_Lengths___init__ := dr_Lengths___init__
    f_Lengths___str__ := f_Lengths___str__
    d_Lengths___str__ := PySem.W.fnOf "__str__" "Lengths.__str__" (defArgs s_Lengths___str__) (defBody s_Lengths___str__) (defScope s_Lengths___str__) .none kV_Lengths___str__ dc_Lengths___str__ pm_Lengths___str__ an_Lengths___str__ cd_Lengths___str__ ct_Lengths___str__
    f_Lengths_read := f_Lengths_read
    p_Lengths_read := p_Lengths_read
    d_Lengths_read := PySem.W.fnOf "read" "Lengths.read" (defArgs s_Lengths_read) (defBody s_Lengths_read) (defScope s_Lengths_read) .none kV_Lengths_read dc_Lengths_read pm_Lengths_read an_Lengths_read cd_Lengths_read ct_Lengths_read
    f_Lengths_none := f_Lengths_none
    p_Lengths_none := p_Lengths_none
    d_Lengths_none := PySem.W.fnOf "none" "Lengths.none" (defArgs s_Lengths_none) (defBody s_Lengths_none) (defScope s_Lengths_none) .none kV_Lengths_none dc_Lengths_none pm_Lengths_none an_Lengths_none cd_Lengths_none ct_Lengths_none
    f__law_pen := f__law_pen
    d__law_pen := PySem.W.fnOf "_law_pen" "_law_pen" (defArgs s__law_pen) (defBody s__law_pen) (defScope s__law_pen) .none kV__law_pen dc__law_pen pm__law_pen an__law_pen cd__law_pen ct__law_pen
    f__law_draw := f__law_draw
    d__law_draw := PySem.W.fnOf "_law_draw" "_law_draw" (defArgs s__law_draw) (defBody s__law_draw) (defScope s__law_draw) .none kV__law_draw dc__law_draw pm__law_draw an__law_draw cd__law_draw ct__law_draw
    f__law_pick := f__law_pick
    d__law_pick := PySem.W.fnOf "_law_pick" "_law_pick" (defArgs s__law_pick) (defBody s__law_pick) (defScope s__law_pick) .none kV__law_pick dc__law_pick pm__law_pick an__law_pick cd__law_pick ct__law_pick
    f__law_line := f__law_line
    d__law_line := PySem.W.fnOf "_law_line" "_law_line" (defArgs s__law_line) (defBody s__law_line) (defScope s__law_line) .none kV__law_line dc__law_line pm__law_line an__law_line cd__law_line ct__law_line
    f__law_number := f__law_number
    d__law_number := PySem.W.fnOf "_law_number" "_law_number" (defArgs s__law_number) (defBody s__law_number) (defScope s__law_number) .none kV__law_number dc__law_number pm__law_number an__law_number cd__law_number ct__law_number
    f__law_rising := f__law_rising
    d__law_rising := PySem.W.fnOf "_law_rising" "_law_rising" (defArgs s__law_rising) (defBody s__law_rising) (defScope s__law_rising) .none kV__law_rising dc__law_rising pm__law_rising an__law_rising cd__law_rising ct__law_rising
    f__law_is_least := f__law_is_least
    d__law_is_least := PySem.W.fnOf "_law_is_least" "_law_is_least" (defArgs s__law_is_least) (defBody s__law_is_least) (defScope s__law_is_least) .none kV__law_is_least dc__law_is_least pm__law_is_least an__law_is_least cd__law_is_least ct__law_is_least
    f__law_is_text := f__law_is_text
    d__law_is_text := PySem.W.fnOf "_law_is_text" "_law_is_text" (defArgs s__law_is_text) (defBody s__law_is_text) (defScope s__law_is_text) .none kV__law_is_text dc__law_is_text pm__law_is_text an__law_is_text cd__law_is_text ct__law_is_text
    f__law_bent := f__law_bent
    d__law_bent := PySem.W.fnOf "_law_bent" "_law_bent" (defArgs s__law_bent) (defBody s__law_bent) (defScope s__law_bent) .none kV__law_bent dc__law_bent pm__law_bent an__law_bent cd__law_bent ct__law_bent
    f__law_heard := f__law_heard
    d__law_heard := PySem.W.fnOf "_law_heard" "_law_heard" (defArgs s__law_heard) (defBody s__law_heard) (defScope s__law_heard) .none kV__law_heard dc__law_heard pm__law_heard an__law_heard cd__law_heard ct__law_heard
    f_law := f_law
    d_law := PySem.W.fnOf "law" "law" (defArgs s_law) (defBody s_law) (defScope s_law) .none kV_law dc_law pm_law an_law (.ref cc_law) ct_law
    cc_law := cc_law
    tp_law := tp_law
    g_is_whole := PySem.W.mg_of X G a_is_whole
    F_is_whole := F_is_whole
    bd_is_whole := F_is_whole.binds (ps := ["value"]) fun _ _ _ _ _ _ us hl => match us, hl with | [_], _ => rfl
    g_is_from := PySem.W.mg_of X G a_is_from
    F_is_from := F_is_from
    bd_is_from := F_is_from.binds (ps := ["value", "least", "most"]) fun _ _ _ _ _ _ us hl => match us, hl with | [_, _, _], _ => rfl
    g_are_from := PySem.W.mg_of X G a_are_from
    F_are_from := F_are_from
    bd_are_from := F_are_from.binds (ps := ["values", "least", "most"]) fun _ _ _ _ _ _ us hl => match us, hl with | [_, _, _], _ => rfl
    g_read_number := PySem.W.mg_of X G a_read_number
    F_read_number := F_read_number
    bd_read_number := F_read_number.binds (ps := ["word"]) fun _ _ _ _ _ _ us hl => match us, hl with | [_], _ => rfl
    g_marked := PySem.W.mg_of X G a_marked
    F_marked := F_marked
    bd_marked := F_marked.binds (ps := ["size", "numbers"]) fun _ _ _ _ _ _ us hl => match us, hl with | [_, _], _ => rfl
    g_least_period := PySem.W.mg_of X G a_least_period
    F_least_period := F_least_period
    bd_least_period := F_least_period.binds (ps := ["turn"]) fun _ _ _ _ _ _ us hl => match us, hl with | [_], _ => rfl
    g_check_parts := PySem.W.mg_of X G a_check_parts
    F_check_parts := F_check_parts
    bd_check_parts := F_check_parts.binds (ps := ["start", "low", "period", "rests"]) fun _ _ _ _ _ _ us hl => match us, hl with | [_, _, _, _], _ => rfl
    g_check_size := PySem.W.mg_of X G a_check_size
    F_check_size := F_check_size
    bd_check_size := F_check_size.binds (ps := ["start", "period"]) fun _ _ _ _ _ _ us hl => match us, hl with | [_, _], _ => rfl
    g_read_parts := PySem.W.mg_of X G a_read_parts
    F_read_parts := F_read_parts
    bd_read_parts := F_read_parts.binds (ps := ["text"]) fun _ _ _ _ _ _ us hl => match us, hl with | [_], _ => rfl
    g_StayError := PySem.W.mg_of X G a_StayError
    g_BadLengths := PySem.W.mg_of X G a_BadLengths
    x_BadLengths := ⟨⟨nm_BadLengths, q_BadLengths, N_BadLengths, bs_BadLengths, bm_BadLengths, sn_BadLengths, sub_BadLengths, ab_BadLengths, col_BadLengths, dd_BadLengths, m0_BadLengths, m1_BadLengths, m2_BadLengths, m3_BadLengths, m5_BadLengths, h_BadLengths_l, h_BadLengths_bm⟩, h_BadLengths_sa, h_BadLengths_ex, h_BadLengths_ty, h_BadLengths_kp⟩
    xf_BadLengths := ⟨h_BadLengths_ga, h_BadLengths_gg, h_BadLengths_ex, h_BadLengths_hd⟩
    xc_BadLengths := ⟨h_BadLengths_ga, h_BadLengths_gg, h_BadLengths_ex, h_BadLengths_hd, h_BadLengths_cls, h_cget, h_ctak, h_BadLengths_mro⟩
    nx_BadLengths_part := h_nx_BadLengths_part
    fi_BadLengths___init__ := a_BadLengths___init__
    isf_BadLengths___init__ := i_BadLengths___init__
    F_BadLengths___init__ := F_BadLengths___init__
    bd_BadLengths___init__ := F_BadLengths___init__.binds (ps := ["self", "part"]) fun _ _ _ _ _ _ us hl => match us, hl with | [_, _], _ => rfl
    ti_BadLengths := t_BadLengths___init__
    g_TooMany := PySem.W.mg_of X G a_TooMany
    x_TooMany := ⟨⟨nm_TooMany, q_TooMany, N_TooMany, bs_TooMany, bm_TooMany, sn_TooMany, sub_TooMany, ab_TooMany, col_TooMany, dd_TooMany, m0_TooMany, m1_TooMany, m2_TooMany, m3_TooMany, m5_TooMany, h_TooMany_l, h_TooMany_bm⟩, h_TooMany_sa, h_TooMany_ex, h_TooMany_ty, h_TooMany_kp⟩
    xf_TooMany := ⟨h_TooMany_ga, h_TooMany_gg, h_TooMany_ex, h_TooMany_hd⟩
    xc_TooMany := ⟨h_TooMany_ga, h_TooMany_gg, h_TooMany_ex, h_TooMany_hd, h_TooMany_cls, h_cget, h_ctak, h_TooMany_mro⟩
    nx_TooMany_what := h_nx_TooMany_what
    nx_TooMany_most := h_nx_TooMany_most
    fi_TooMany___init__ := a_TooMany___init__
    isf_TooMany___init__ := i_TooMany___init__
    F_TooMany___init__ := F_TooMany___init__
    bd_TooMany___init__ := F_TooMany___init__.binds (ps := ["self", "what", "most"]) fun _ _ _ _ _ _ us hl => match us, hl with | [_, _, _], _ => rfl
    ti_TooMany := t_TooMany___init__
    g_BadText := PySem.W.mg_of X G a_BadText
    x_BadText := ⟨⟨nm_BadText, q_BadText, N_BadText, bs_BadText, bm_BadText, sn_BadText, sub_BadText, ab_BadText, col_BadText, dd_BadText, m0_BadText, m1_BadText, m2_BadText, m3_BadText, m5_BadText, h_BadText_l, h_BadText_bm⟩, h_BadText_sa, h_BadText_ex, h_BadText_ty, h_BadText_kp⟩
    xf_BadText := ⟨h_BadText_ga, h_BadText_gg, h_BadText_ex, h_BadText_hd⟩
    xc_BadText := ⟨h_BadText_ga, h_BadText_gg, h_BadText_ex, h_BadText_hd, h_BadText_cls, h_cget, h_ctak, h_BadText_mro⟩
    nx_BadText_line := h_nx_BadText_line
    nx_BadText_word := h_nx_BadText_word
    fi_BadText___init__ := a_BadText___init__
    isf_BadText___init__ := i_BadText___init__
    F_BadText___init__ := F_BadText___init__
    bd_BadText___init__ := F_BadText___init__.binds (ps := ["self", "line", "word"]) fun _ _ _ _ _ _ us hl => match us, hl with | [_, _, _], _ => rfl
    ti_BadText := t_BadText___init__
    g_Lengths := PySem.W.mg_of X G a_Lengths
    cl_Lengths := ⟨h_Lengths_pg, h_Lengths_hd, h_Lengths_po, h_Lengths_sa⟩
    own_Lengths := ⟨⟨h_Lengths_pg, h_Lengths_hd, h_Lengths_po, h_Lengths_sa⟩, h_Lengths_cls, h_Lengths_get, h_Lengths_tak, h_Lengths_mro⟩
    na_Lengths__start := h_na_Lengths__start
    na_Lengths__period := h_na_Lengths__period
    na_Lengths__low := h_na_Lengths__low
    na_Lengths__rests := h_na_Lengths__rests
    na_Lengths__marks := h_na_Lengths__marks
    fi_Lengths___init__ := a_Lengths___init__
    kt_dl_Lengths___init__ := ⟨_, #[], _, ldl_Lengths___init__, rfl, rfl, Nat.zero_le _, .nil⟩
    kt_dr_Lengths___init__ := ⟨_, #[], _, ldr_Lengths___init__, rfl, rfl, Nat.zero_le _, .nil⟩
    F_Lengths___init__ := F_Lengths___init__
    bd1_Lengths := F_Lengths___init__.binds1 2 0 (by simp) rfl fun _ _ _ _ _ _ _ us its h1 h2 => match us, its, h1, h2 with | [_, _], [_, _, _], _, _ => ⟨_, rfl, rfl⟩
    bd2_Lengths := F_Lengths___init__.binds1 3 1 (by simp) rfl fun _ _ _ _ _ _ _ us its h1 h2 => match us, its, h1, h2 with | [_, _, _], [_, _, _], _, _ => ⟨_, rfl, rfl⟩
    bd4_Lengths := F_Lengths___init__.binds1 5 3 (by simp) rfl fun _ _ _ _ _ _ _ us its h1 h2 => match us, its, h1, h2 with | [_, _, _, _, _], [_, _, _], _, _ => ⟨_, rfl, rfl⟩
    fi_Lengths___str__ := a_Lengths___str__
    isf_Lengths___str__ := i_Lengths___str__
    F_Lengths___str__ := F_Lengths___str__
    bd_Lengths___str__ := F_Lengths___str__.binds (ps := ["self"]) fun _ _ _ _ _ _ us hl => match us, hl with | [_], _ => rfl
    cr_Lengths := ⟨h_Lengths_rd, h_Lengths_tg⟩
    F_Lengths_read := F_Lengths_read
    bd_Lengths_read := F_Lengths_read.binds (ps := ["cls", "text"]) fun _ _ _ _ _ _ us hl => match us, hl with | [_, _], _ => rfl
    cm_Lengths_read := ⟨ca_Lengths_read, ⟨_, cr_Lengths_read⟩, cf_Lengths_read⟩
    F_Lengths_none := F_Lengths_none
    bd_Lengths_none := F_Lengths_none.binds (ps := []) fun _ _ _ _ _ _ us hl => match us, hl with | [], _ => rfl
    sme_Lengths_none := ⟨ca_Lengths_none, ⟨_, cr_Lengths_none⟩, k_Lengths_none⟩
    exm_BadText := h_exm_BadText
    exm_BadText_BL := h_exm_BadText_BL
    exm_BadText_TM := h_exm_BadText_TM
    exm_BadLengths_BL := h_exm_BadLengths_BL
    exm_BadLengths_TM := h_exm_BadLengths_TM
    exm_TooMany_BL := h_exm_TooMany_BL
    exm_TooMany_TM := h_exm_TooMany_TM
    kit_BadText := h_kit_BadText
    kit_Lengths := h_kit_Lengths
    kit_Lengths_str := h_kit_Lengths_str
    g__law_pen := PySem.W.mg_of X G a__law_pen
    F__law_pen := F__law_pen
    bd__law_pen := F__law_pen.binds (ps := ["script"]) fun _ _ _ _ _ _ us hl => match us, hl with | [_], _ => rfl
    g__law_draw := PySem.W.mg_of X G a__law_draw
    F__law_draw := F__law_draw
    bd__law_draw := F__law_draw.binds (ps := ["pen", "many"]) fun _ _ _ _ _ _ us hl => match us, hl with | [_, _], _ => rfl
    g__law_pick := PySem.W.mg_of X G a__law_pick
    F__law_pick := F__law_pick
    bd__law_pick := F__law_pick.binds (ps := ["pen", "some"]) fun _ _ _ _ _ _ us hl => match us, hl with | [_, _], _ => rfl
    g__law_line := PySem.W.mg_of X G a__law_line
    F__law_line := F__law_line
    bd__law_line := F__law_line.binds (ps := ["pen"]) fun _ _ _ _ _ _ us hl => match us, hl with | [_], _ => rfl
    g__law_number := PySem.W.mg_of X G a__law_number
    F__law_number := F__law_number
    bd__law_number := F__law_number.binds (ps := ["word"]) fun _ _ _ _ _ _ us hl => match us, hl with | [_], _ => rfl
    g__law_rising := PySem.W.mg_of X G a__law_rising
    F__law_rising := F__law_rising
    bd__law_rising := F__law_rising.binds (ps := ["words"]) fun _ _ _ _ _ _ us hl => match us, hl with | [_], _ => rfl
    g__law_is_least := PySem.W.mg_of X G a__law_is_least
    F__law_is_least := F__law_is_least
    bd__law_is_least := F__law_is_least.binds (ps := ["head", "low", "size", "over"]) fun _ _ _ _ _ _ us hl => match us, hl with | [_, _, _, _], _ => rfl
    g__law_is_text := PySem.W.mg_of X G a__law_is_text
    F__law_is_text := F__law_is_text
    bd__law_is_text := F__law_is_text.binds (ps := ["line"]) fun _ _ _ _ _ _ us hl => match us, hl with | [_], _ => rfl
    g__law_bent := PySem.W.mg_of X G a__law_bent
    F__law_bent := F__law_bent
    bd__law_bent := F__law_bent.binds (ps := ["pen", "line"]) fun _ _ _ _ _ _ us hl => match us, hl with | [_, _], _ => rfl
    g__law_heard := PySem.W.mg_of X G a__law_heard
    F__law_heard := F__law_heard
    bd__law_heard := F__law_heard.binds (ps := ["ask"]) fun _ _ _ _ _ _ us hl => match us, hl with | [_], _ => rfl
    g_law := PySem.W.mg_of X G a_law
    F_law := F_law
    bd_law := F_law.binds (ps := ["script"]) fun _ _ _ _ _ _ us hl => match us, hl with | [_], _ => rfl
    b_isinstance := PySem.W.mg_none_of X G z_isinstance
    b_int := PySem.W.mg_none_of X G z_int
    b_bool := PySem.W.mg_none_of X G z_bool
    b_len := PySem.W.mg_none_of X G z_len
    b_tuple := PySem.W.mg_none_of X G z_tuple
    b_range := PySem.W.mg_none_of X G z_range
    b_list := PySem.W.mg_none_of X G z_list
    b_abs := PySem.W.mg_none_of X G z_abs
    b_str := PySem.W.mg_none_of X G z_str
    b_all := PySem.W.mg_none_of X G z_all
    b_zip := PySem.W.mg_none_of X G z_zip
    g_DIGITS := ⟨_, PySem.W.mg_of X G a_DIGITS⟩
    cv_Lengths_MOST := ⟨_, h_Lengths_MOST, ⟨_, rfl⟩⟩
    code_law := rfl
    mk_Lengths := ⟨h_Lengths_mk, a_Lengths___init__, i_Lengths___init__, h_Lengths_kp⟩
    sm_Lengths___str__ := ⟨a_Lengths___str__, i_Lengths___str__⟩ }) ef e0 hg_law hn_law
end NN

open PySem PySem.W PyProof.Rows in
set_option maxHeartbeats 0 in
theorem PySem.Challenge.cw_nodeadnight_k09_texts_that_are_no_length_holds : PySem.Challenge.rw_nodeadnight_k09_texts_that_are_no_length.Holds := by
  w_on; o_law; k_head; (case hw => w_witness2)
  k_fill
  refine LamX.walk_ofG (l := PySem.Challenge.rw_nodeadnight_k09_texts_that_are_no_length) (n := 63) (k := 40) (CX := fun _ => L2.CX0) (x := "script") rfl (by decide) rfl ⟨rfl, by decide, by decide⟩ (fun w h Y => by first | exact PySem.W.km_in_of Y | exact PySem.W.kIn_of Y) ?F ?hCX
  case hCX => exact fun _ _ _ _ _ z => z
  case F =>
    intro w mg fa h Y KX G hmg
    refine' NN.all_mk (hfa := hmg) KX G ?a_is_whole ?l_is_whole ?c_is_whole_ ?k_is_whole ?a_is_from ?l_is_from ?c_is_from_ ?k_is_from ?a_are_from ?l_are_from ?c_are_from_ ?k_are_from ?a_read_number ?l_read_number ?c_read_number_ ?k_read_number ?a_marked ?l_marked ?c_marked_ ?k_marked ?a_least_period ?l_least_period ?c_least_period_ ?k_least_period ?a_check_parts ?l_check_parts ?c_check_parts_ ?k_check_parts ?a_check_size ?l_check_size ?c_check_size_ ?k_check_size ?a_read_parts ?l_read_parts ?c_read_parts_ ?k_read_parts ?a_StayError ?a_BadLengths ?h_BadLengths_l ?h_BadLengths_bm ?h_BadLengths_sa ?h_BadLengths_ex ?h_BadLengths_ty ?h_BadLengths_kp ?h_BadLengths_ga ?h_BadLengths_gg ?h_BadLengths_hd ?h_BadLengths_cls ?h_BadLengths_mro ?h_cget ?h_ctak ?h_nx_BadLengths_part ?a_BadLengths___init__ ?i_BadLengths___init__ ?l_BadLengths___init__ ?c_BadLengths___init___ ?k_BadLengths___init__ ?t_BadLengths___init__ ?a_TooMany ?h_TooMany_l ?h_TooMany_bm ?h_TooMany_sa ?h_TooMany_ex ?h_TooMany_ty ?h_TooMany_kp ?h_TooMany_ga ?h_TooMany_gg ?h_TooMany_hd ?h_TooMany_cls ?h_TooMany_mro ?h_nx_TooMany_what ?h_nx_TooMany_most ?a_TooMany___init__ ?i_TooMany___init__ ?l_TooMany___init__ ?c_TooMany___init___ ?k_TooMany___init__ ?t_TooMany___init__ ?a_BadText ?h_BadText_l ?h_BadText_bm ?h_BadText_sa ?h_BadText_ex ?h_BadText_ty ?h_BadText_kp ?h_BadText_ga ?h_BadText_gg ?h_BadText_hd ?h_BadText_cls ?h_BadText_mro ?h_nx_BadText_line ?h_nx_BadText_word ?a_BadText___init__ ?i_BadText___init__ ?l_BadText___init__ ?c_BadText___init___ ?k_BadText___init__ ?t_BadText___init__ ?a_Lengths ?h_Lengths_pg ?h_Lengths_hd ?h_Lengths_po ?h_Lengths_sa ?h_Lengths_cls ?h_Lengths_get ?h_Lengths_tak ?h_Lengths_mro ?h_na_Lengths__start ?h_na_Lengths__period ?h_na_Lengths__low ?h_na_Lengths__rests ?h_na_Lengths__marks ?h_Lengths_mk ?h_Lengths_kp ?a_Lengths___init__ ?i_Lengths___init__ ?l_Lengths___init__ ?c_Lengths___init___ ?k_Lengths___init__ ?lt_Lengths___init__ ?ldl_Lengths___init__ ?ldr_Lengths___init__ ?a_Lengths___str__ ?i_Lengths___str__ ?l_Lengths___str__ ?c_Lengths___str___ ?k_Lengths___str__ ?h_Lengths_rd ?h_Lengths_tg ?ca_Lengths_read ?cr_Lengths_read ?cf_Lengths_read ?l_Lengths_read ?c_Lengths_read_ ?k_Lengths_read ?ca_Lengths_none ?cr_Lengths_none ?l_Lengths_none ?c_Lengths_none_ ?k_Lengths_none ?h_exm_BadText ?h_exm_BadText_BL ?h_exm_BadText_TM ?h_exm_BadLengths_BL ?h_exm_BadLengths_TM ?h_exm_TooMany_BL ?h_exm_TooMany_TM ?h_kit_BadText ?h_kit_Lengths ?h_kit_Lengths_str ?a__law_pen ?l__law_pen ?c__law_pen_ ?k__law_pen ?a__law_draw ?l__law_draw ?c__law_draw_ ?k__law_draw ?a__law_pick ?l__law_pick ?c__law_pick_ ?k__law_pick ?a__law_line ?l__law_line ?c__law_line_ ?k__law_line ?a__law_number ?l__law_number ?c__law_number_ ?k__law_number ?a__law_rising ?l__law_rising ?c__law_rising_ ?k__law_rising ?a__law_is_least ?l__law_is_least ?c__law_is_least_ ?k__law_is_least ?a__law_is_text ?l__law_is_text ?c__law_is_text_ ?k__law_is_text ?a__law_bent ?l__law_bent ?c__law_bent_ ?k__law_bent ?a__law_heard ?l__law_heard ?c__law_heard_ ?k__law_heard ?a_law ?l_law ?c_law_ ?k_law ?z_isinstance ?z_int ?z_bool ?z_len ?z_tuple ?z_range ?z_list ?z_abs ?z_str ?z_all ?z_zip ?a_DIGITS ?h_Lengths_MOST ?hc_law ?ht_law ?hb_law ?hg_law ?hn_law
    (case a_is_whole => k_is)
    (case l_is_whole => k_is)
    (case c_is_whole_ => k_is)
    (case k_is_whole => k_is)
    (case a_is_from => k_is)
    (case l_is_from => k_is)
    (case c_is_from_ => k_is)
    (case k_is_from => k_is)
    (case a_are_from => k_is)
    (case l_are_from => k_is)
    (case c_are_from_ => k_is)
    (case k_are_from => k_is)
    (case a_read_number => k_is)
    (case l_read_number => k_is)
    (case c_read_number_ => k_is)
    (case k_read_number => k_is)
    (case a_marked => k_is)
    (case l_marked => k_is)
    (case c_marked_ => k_is)
    (case k_marked => k_is)
    (case a_least_period => k_is)
    (case l_least_period => k_is)
    (case c_least_period_ => k_is)
    (case k_least_period => k_is)
    (case a_check_parts => k_is)
    (case l_check_parts => k_is)
    (case c_check_parts_ => k_is)
    (case k_check_parts => k_is)
    (case a_check_size => k_is)
    (case l_check_size => k_is)
    (case c_check_size_ => k_is)
    (case k_check_size => k_is)
    (case a_read_parts => k_is)
    (case l_read_parts => k_is)
    (case c_read_parts_ => k_is)
    (case k_read_parts => k_is)
    (case a_StayError => k_is)
    (case a_BadLengths => k_is)
    (case h_BadLengths_l => k_is)
    (case h_BadLengths_bm => first | rfl | decide +kernel)
    (case h_BadLengths_sa => k_is)
    (case h_BadLengths_ex => k_is)
    (case h_BadLengths_ty => k_is)
    (case h_BadLengths_kp => k_is)
    (case h_BadLengths_ga => k_is)
    (case h_BadLengths_gg => k_is)
    (case h_BadLengths_hd => k_is)
    (case h_BadLengths_cls => k_is)
    (case h_BadLengths_mro => k_is)
    (case h_cget => k_is)
    (case h_ctak => k_is)
    (case h_nx_BadLengths_part => k_is)
    (case a_BadLengths___init__ => k_is)
    (case i_BadLengths___init__ => k_is)
    (case l_BadLengths___init__ => k_is)
    (case c_BadLengths___init___ => k_is)
    (case k_BadLengths___init__ => k_is)
    (case t_BadLengths___init__ => k_is)
    (case a_TooMany => k_is)
    (case h_TooMany_l => k_is)
    (case h_TooMany_bm => first | rfl | decide +kernel)
    (case h_TooMany_sa => k_is)
    (case h_TooMany_ex => k_is)
    (case h_TooMany_ty => k_is)
    (case h_TooMany_kp => k_is)
    (case h_TooMany_ga => k_is)
    (case h_TooMany_gg => k_is)
    (case h_TooMany_hd => k_is)
    (case h_TooMany_cls => k_is)
    (case h_TooMany_mro => k_is)
    (case h_nx_TooMany_what => k_is)
    (case h_nx_TooMany_most => k_is)
    (case a_TooMany___init__ => k_is)
    (case i_TooMany___init__ => k_is)
    (case l_TooMany___init__ => k_is)
    (case c_TooMany___init___ => k_is)
    (case k_TooMany___init__ => k_is)
    (case t_TooMany___init__ => k_is)
    (case a_BadText => k_is)
    (case h_BadText_l => k_is)
    (case h_BadText_bm => first | rfl | decide +kernel)
    (case h_BadText_sa => k_is)
    (case h_BadText_ex => k_is)
    (case h_BadText_ty => k_is)
    (case h_BadText_kp => k_is)
    (case h_BadText_ga => k_is)
    (case h_BadText_gg => k_is)
    (case h_BadText_hd => k_is)
    (case h_BadText_cls => k_is)
    (case h_BadText_mro => k_is)
    (case h_nx_BadText_line => k_is)
    (case h_nx_BadText_word => k_is)
    (case a_BadText___init__ => k_is)
    (case i_BadText___init__ => k_is)
    (case l_BadText___init__ => k_is)
    (case c_BadText___init___ => k_is)
    (case k_BadText___init__ => k_is)
    (case t_BadText___init__ => k_is)
    (case a_Lengths => k_is)
    (case h_Lengths_pg => k_is)
    (case h_Lengths_hd => k_is)
    (case h_Lengths_po => k_is)
    (case h_Lengths_sa => k_is)
    (case h_Lengths_cls => k_is)
    (case h_Lengths_get => k_is)
    (case h_Lengths_tak => k_is)
    (case h_Lengths_mro => k_is)
    (case h_na_Lengths__start => k_is)
    (case h_na_Lengths__period => k_is)
    (case h_na_Lengths__low => k_is)
    (case h_na_Lengths__rests => k_is)
    (case h_na_Lengths__marks => k_is)
    (case h_Lengths_mk => k_is)
    (case h_Lengths_kp => k_is)
    (case a_Lengths___init__ => k_is)
    (case i_Lengths___init__ => k_is)
    (case l_Lengths___init__ => k_is)
    (case c_Lengths___init___ => k_is)
    (case k_Lengths___init__ => k_is)
    (case lt_Lengths___init__ => k_is)
    (case ldl_Lengths___init__ => k_is)
    (case ldr_Lengths___init__ => k_is)
    (case a_Lengths___str__ => k_is)
    (case i_Lengths___str__ => k_is)
    (case l_Lengths___str__ => k_is)
    (case c_Lengths___str___ => k_is)
    (case k_Lengths___str__ => k_is)
    (case h_Lengths_rd => k_is)
    (case h_Lengths_tg => k_is)
    (case ca_Lengths_read => k_is)
    (case cr_Lengths_read => k_is)
    (case cf_Lengths_read => k_is)
    (case l_Lengths_read => k_is)
    (case c_Lengths_read_ => k_is)
    (case k_Lengths_read => k_is)
    (case ca_Lengths_none => k_is)
    (case cr_Lengths_none => k_is)
    (case l_Lengths_none => k_is)
    (case c_Lengths_none_ => k_is)
    (case k_Lengths_none => k_is)
    (case h_exm_BadText => kts_exm)
    (case h_exm_BadText_BL => kts_exm)
    (case h_exm_BadText_TM => kts_exm)
    (case h_exm_BadLengths_BL => kts_exm)
    (case h_exm_BadLengths_TM => kts_exm)
    (case h_exm_TooMany_BL => kts_exm)
    (case h_exm_TooMany_TM => kts_exm)
    (case h_kit_BadText => kit_is)
    (case h_kit_Lengths => kit_is)
    (case h_kit_Lengths_str => kit_is)
    (case a__law_pen => k_is)
    (case l__law_pen => k_is)
    (case c__law_pen_ => k_is)
    (case k__law_pen => k_is)
    (case a__law_draw => k_is)
    (case l__law_draw => k_is)
    (case c__law_draw_ => k_is)
    (case k__law_draw => k_is)
    (case a__law_pick => k_is)
    (case l__law_pick => k_is)
    (case c__law_pick_ => k_is)
    (case k__law_pick => k_is)
    (case a__law_line => k_is)
    (case l__law_line => k_is)
    (case c__law_line_ => k_is)
    (case k__law_line => k_is)
    (case a__law_number => k_is)
    (case l__law_number => k_is)
    (case c__law_number_ => k_is)
    (case k__law_number => k_is)
    (case a__law_rising => k_is)
    (case l__law_rising => k_is)
    (case c__law_rising_ => k_is)
    (case k__law_rising => k_is)
    (case a__law_is_least => k_is)
    (case l__law_is_least => k_is)
    (case c__law_is_least_ => k_is)
    (case k__law_is_least => k_is)
    (case a__law_is_text => k_is)
    (case l__law_is_text => k_is)
    (case c__law_is_text_ => k_is)
    (case k__law_is_text => k_is)
    (case a__law_bent => k_is)
    (case l__law_bent => k_is)
    (case c__law_bent_ => k_is)
    (case k__law_bent => k_is)
    (case a__law_heard => k_is)
    (case l__law_heard => k_is)
    (case c__law_heard_ => k_is)
    (case k__law_heard => k_is)
    (case a_law => k_is)
    (case l_law => k_is)
    (case c_law_ => k_is)
    (case k_law => k_is)
    (case z_isinstance => k_is)
    (case z_int => k_is)
    (case z_bool => k_is)
    (case z_len => k_is)
    (case z_tuple => k_is)
    (case z_range => k_is)
    (case z_list => k_is)
    (case z_abs => k_is)
    (case z_str => k_is)
    (case z_all => k_is)
    (case z_zip => k_is)
    (case a_DIGITS => k_is)
    (case h_Lengths_MOST => k_is)
    (case hc_law => k_is)
    (case ht_law => rfl)
    (case hb_law => first | rfl | decide +kernel)
    (case hg_law => exact PySem.W.km_tabs_of Y _ (by decide))
    (case hn_law => exact NN.none_of Y (by decide))
#print axioms PySem.Challenge.cw_nodeadnight_k09_texts_that_are_no_length_holds
