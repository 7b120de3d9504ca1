import PyProof.Rows.All
import Wide.All
import OpenK.AllK
import Wide.FinOn
import HandS.ForMost
import HandS.EndTab
import HandS.OwnEq
import HandS.IsInst
import HandS.Exc
import HandS.ExcInit
import HandS.ExcIs
import HandS.ExcField
import HandS.Conv
import HandS.FStr
import KE.KCallOwn
import HandS.ClsMeth
import HandS.Lambda
import HandS.WordsExc
import PyProof.NeKinds
import KE.KIsNot
import PyProof.MeetsIn
import PyProof.EqAt
import PyProof.MeetsSeq
import HandS.Property
import KE.KOwnIter
import KE.KDictIter
import PyProof.WalksMore
import HandS.IterVal
import HandS.Comp
import HandS.Star
import HandS.Style
import HandS.Text
import HandS.Wide
import HandS.ExcInitHot
import HandS.SuiteRaise
import HandS.RaiseFrom
import HandS.StrMore
import PyProof.Rows.ReprOcc
import PyProof.Rows.StrDigitsNeg
import KE.IntTextText
import KE.IntTextLaws
import HandS.Codes
import HandS.ReplaceList
import HandS.NoneIn
import HandS.More
import HandS.Defaults
import HandS.Small
import HandS.Dict
import HandS.RaiseMore
import KE.KMathGC
import HandS.Gcd
import HandS.SortKw
import HandS.Strs
import HandS.SetFor
import KE.DataMinMax
import KE.DataAny
import HandS.SortInts
import HandS.SetBool
import HandS.GenList
import HandS.Iter
import HandS.DictComp
import HandS.WordsDict
import KE.KDictList
import HandS.MakeKw
import HandS.MakeKwOnly
import KE.KExcMake
import KE.GoesEnum
import KE.GoesMore
import HandS.TupMul
import KE.RegKIsAll
import KE.RegKTryMore
import KE.OsRunLaw
import PySem.Challenge.RW_nodeadnight_k41_calendars_made
set_option Elab.async false
set_option linter.all false
set_option maxRecDepth 100000
set_option maxHeartbeats 4000000
/-! An abstract layer: a state is what is known (kn) and a count (n); the rest of the heap (a pen, tables of code objects, what a caller had) is kept by an invariant. -/
namespace AW
open PySem PySem.Spec PyProof.Rows L2

def isMut : HO → Bool
  | .lst _ => true | .dK _ => true | .dT _ => true | .set _ _ => true | .ins _ _ _ => true
  | _ => false
def isTbl : HO → Bool
  | .tbl _ => true
  | _ => false
/-- all that kn does not know, and all that never changes, is kept -/
def Kept (kn H H' : Hp) : Prop := ∀ x o, H x = some o → (kn x = none ∨ isMut o = false) → H' x = some o

structure Cw where
  inv : Nat → Hp → Prop
  res : Addr → Prop
  live : ∀ n H x, inv n H → res x → H x ≠ none
  step : ∀ n kn H H', inv n H → (∀ x, res x → kn x = none) → Kept kn H H' → inv n H'
  up : ∀ n m H, inv n H → n ≤ m → inv m H

structure Good (c : Cw) (kn : Hp) (n : Nat) (H : Hp) : Prop where
  ex : Ext kn H
  inv : c.inv n H
  res : ∀ x, c.res x → kn x = none
  nt : ∀ x o, kn x = some o → isTbl o = false

section
variable {c : Cw} {kn kn' H H' : Hp} {n m : Nat} {q : Addr} {o : HO}
theorem Good.free (g : Good c kn n H) (h : H q = none) : kn q = none := by
  cases e : kn q with
  | none => rfl
  | some u => rw [g.ex q u e] at h; cases h
theorem Good.up (g : Good c kn n H) (h : n ≤ m) : Good c kn m H := ⟨g.ex, c.up n m H g.inv h, g.res, g.nt⟩
theorem Kept.refl : Kept kn H H := fun _ _ h _ => h
/-- a new object -/
theorem nt_upd (h : ∀ x o, kn x = some o → isTbl o = false) (ht : isTbl o = false) : ∀ x u, upd kn q o x = some u → isTbl u = false := fun x u e => by
  by_cases hx : x = q
  · rw [hx, upd_same] at e; cases e; exact ht
  · rw [upd_ne hx] at e; exact h x u e
theorem Good.new (g : Good c kn n H) (h : H q = none) (ht : isTbl o = false := by rfl) : Good c (upd kn q o) n (upd H q o) := by
  refine ⟨fun x u e => ?_, c.step n kn H _ g.inv g.res (fun x u e _ => ?_), fun x r => ?_, nt_upd g.nt ht⟩
  · by_cases hx : x = q
    · rw [hx, upd_same] at e
      rw [hx, upd_same]
      exact e
    · rw [upd_ne hx] at e
      rw [upd_ne hx]
      exact g.ex x u e
  · rw [upd_ne (ne_of_none e h)]
    exact e
  · rw [upd_ne (fun z => c.live n H x g.inv r (by rw [z]; exact h))]
    exact g.res x r
/-- a known object is changed -/
theorem Good.put {u : HO} (g : Good c kn n H) (h : kn q = some u) (hm : isMut u = true) (ht : isTbl o = false := by rfl) : Good c (upd kn q o) n (upd H q o) := by
  refine ⟨fun x v e => ?_, c.step n kn H _ g.inv g.res (fun x v e k => ?_), fun x r => ?_, nt_upd g.nt ht⟩
  · by_cases hx : x = q
    · rw [hx, upd_same] at e
      rw [hx, upd_same]
      exact e
    · rw [upd_ne hx] at e
      rw [upd_ne hx]
      exact g.ex x v e
  · have hx : x ≠ q := fun z => by
      subst z
      have e2 := g.ex x u h
      rw [e] at e2
      cases e2
      rcases k with k | k
      · rw [h] at k; cases k
      · rw [hm] at k; cases k
    rw [upd_ne hx]
    exact e
  · rw [upd_ne (fun z => by subst z; have := g.res x r; rw [h] at this; cases this)]
    exact g.res x r
/-- the rest is only made longer -/
theorem Good.ext (g : Good c kn n H) (e : Ext H H') : Good c kn n H' :=
  ⟨fun x o h => e x o (g.ex x o h), c.step n kn H _ g.inv g.res fun x o h _ => e x o h, g.res, g.nt⟩
theorem know {a : Addr} {u : HO} (h : kn q = none) (e : kn a = some u) : upd kn q o a = some u := by
  rw [upd_ne (ne_of_none e h)]
  exact e
theorem free_upd {a : Addr} (h : kn q = none) (e : upd kn a o q = none) : True := trivial
theorem Ext.know {a : Addr} {u : HO} (x : Ext kn kn') (e : kn a = some u) : kn' a = some u := x a u e
end

/-- the abstract wish -/
def W {α : Type} (c : Cw) (t : Hp → (α → Hp → Prop) → Prop) (kn : Hp) (n : Nat) (Q : α → Hp → Nat → Prop) : Prop :=
  ∀ H, Good c kn n H → ∀ Q' : α → Hp → Prop, (∀ v kn' n' H', Q v kn' n' → Good c kn' n' H' → Q' v H') → t H Q'
structure AE where
  nx : L2.St → Hp → Nat → Prop
  rt : V → Hp → Nat → Prop
  bk : L2.St → Hp → Nat → Prop := fun _ _ _ => False
  ct : L2.St → Hp → Nat → Prop := fun _ _ _ => False
/-- an end is served by another -/
structure Fits (c : Cw) (D : AE) (D' : Ends) : Prop where
  nx : ∀ σ kn n H, D.nx σ kn n → Good c kn n H → D'.nx σ H
  rt : ∀ v kn n H, D.rt v kn n → Good c kn n H → D'.rt v H
  bk : ∀ σ kn n H, D.bk σ kn n → Good c kn n H → D'.bk σ H
  ct : ∀ σ kn n H, D.ct σ kn n → Good c kn n H → D'.ct σ H
def WS (c : Cw) (ts : TS) (D : AE) (σ : L2.St) (kn : Hp) (n : Nat) : Prop := ∀ H, Good c kn n H → ∀ D' : Ends, Fits c D D' → ts D' σ H

section
variable {c : Cw} {kn : Hp} {n : Nat} {σ : L2.St} {K : PySem.W.Frag}
theorem W.mono {α : Type} {t : Hp → (α → Hp → Prop) → Prop} {Q R : α → Hp → Nat → Prop} (h : W c t kn n Q) (k : ∀ v kn' n', Q v kn' n' → R v kn' n') : W c t kn n R :=
  fun H g Q' q => h H g Q' fun v kn' n' H' e => q v kn' n' H' (k v kn' n' e)

/-! ### expressions -/
variable {Q : V → Hp → Nat → Prop} {QB : Bool → Hp → Nat → Prop} {QA : List V → Hp → Nat → Prop} {QO : Option Int → Hp → Nat → Prop}
theorem w_var {i : Nat} {v : V} (h : σ[i]? = some (some v)) (q : Q v kn n) : W c (tVar i σ) kn n Q := fun H g _ k => ⟨v, h, k v kn n H q g⟩
theorem w_c {v : V} (q : Q v kn n) : W c (tC v σ) kn n Q := fun H g _ k => k v kn n H q g
theorem w_op {r : R2} {ta tb : TE} (h : W c (ta σ) kn n fun x kn1 n1 => W c (tb σ) kn1 n1 fun y kn2 n2 => W c (r x y) kn2 n2 Q) : W c (tOp r ta tb σ) kn n Q :=
  fun H g Q' q => h H g _ fun x kn1 n1 H1 h1 g1 => h1 H1 g1 _ fun y kn2 n2 H2 h2 g2 => h2 H2 g2 Q' q
theorem w_un {r : V → Hp → VK → Prop} {ta : TE} (h : W c (ta σ) kn n fun x kn1 n1 => W c (r x) kn1 n1 Q) : W c (tUn r ta σ) kn n Q :=
  fun H g Q' q => h H g _ fun x kn1 n1 H1 h1 g1 => h1 H1 g1 Q' q
theorem r_I0 {f : Int → Int → V} {i j : Int} (q : Q (f i j) kn n) : W c (rI0 f (.int i) (.int j)) kn n Q := fun H g _ k => ⟨i, j, rfl, rfl, k _ kn n H q g⟩
theorem r_I {C : Int → Int → Prop} {f : Int → Int → V} {i j : Int} (hc : C i j) (q : Q (f i j) kn n) : W c (rI C f (.int i) (.int j)) kn n Q := fun H g _ k => ⟨i, j, rfl, rfl, hc, k _ kn n H q g⟩
theorem r_U {f : Int → V} {i : Int} (q : Q (f i) kn n) : W c (rU f (.int i)) kn n Q := fun H g _ k => ⟨i, rfl, k _ kn n H q g⟩
theorem r_eq {x y : V} (h : scal x y = true) (q : Q (.bl (decide (x = y))) kn n) : W c (rEq x y) kn n Q := fun H g _ k => ⟨h, k _ kn n H q g⟩
theorem r_ne {x y : V} (h : scal x y = true) (q : Q (.bl (!decide (x = y))) kn n) : W c (rNe x y) kn n Q := fun H g _ k => ⟨h, k _ kn n H q g⟩
theorem sql {a : Addr} {xs : List V} {H : Hp} (h : H a = some (.lst xs)) : SqL K H a xs := .inl (.inl h)
theorem sqt {a : Addr} {xs : List V} {H : Hp} (h : H a = some (.tup xs)) : SqT K H a xs := .inl (.inl h)
theorem r_ixL {p : Addr} {xs : List V} {i : Int} {v : V} (h : kn p = some (.lst xs)) (e : atI xs i = some v) (q : Q v kn n) : W c (rIxL K (.ref p) (.int i)) kn n Q :=
  fun H g _ k => ⟨p, xs, i, v, rfl, rfl, sql (g.ex _ _ h), e, k _ kn n H q g⟩
theorem r_ixT {p : Addr} {xs : List V} {i : Int} {v : V} (h : kn p = some (.tup xs)) (e : atI xs i = some v) (q : Q v kn n) : W c (rIxT K (.ref p) (.int i)) kn n Q :=
  fun H g _ k => ⟨p, xs, i, v, rfl, rfl, sqt (g.ex _ _ h), e, k _ kn n H q g⟩
theorem w_nil (q : QA [] kn n) : W c (tNil σ) kn n QA := fun H g _ k => k _ kn n H q g
theorem w_cons {ta : TE} {tr : TA} (h : W c (ta σ) kn n fun x kn1 n1 => W c (tr σ) kn1 n1 fun xs kn2 n2 => QA (x :: xs) kn2 n2) : W c (tCons ta tr σ) kn n QA :=
  fun H g Q' q => h H g _ fun x kn1 n1 H1 h1 g1 => h1 H1 g1 _ fun xs kn2 n2 H2 h2 g2 => q _ kn2 n2 H2 h2 g2
theorem w_tup {t : TA} (h : W c (t σ) kn n fun xs kn1 n1 => xs.length ≤ 1000 ∧ ∀ q, kn1 q = none → Q (.ref q) (upd kn1 q (.tup xs)) n1) : W c (tTup t σ) kn n Q :=
  fun H g Q' q => h H g _ fun xs kn1 n1 H1 h1 g1 => ⟨Nat.le_trans h1.1 (by decide), fun p hp => q _ _ _ _ (h1.2 p (g1.free hp)) (g1.new hp)⟩
theorem w_lst {t : TA} (h : W c (t σ) kn n fun xs kn1 n1 => xs.length ≤ 1000 ∧ ∀ q, kn1 q = none → Q (.ref q) (upd kn1 q (.lst xs)) n1) : W c (tLst t σ) kn n Q :=
  fun H g Q' q => h H g _ fun xs kn1 n1 H1 h1 g1 => ⟨Nat.le_trans h1.1 (by decide), fun p hp => q _ _ _ _ (h1.2 p (g1.free hp)) (g1.new hp)⟩
theorem w_cb {r : List V → Hp → VK → Prop} {t : TA} (h : W c (t σ) kn n fun xs kn1 n1 => W c (r xs) kn1 n1 Q) : W c (tCB r t σ) kn n Q :=
  fun H g Q' q => h H g _ fun xs kn1 n1 H1 h1 g1 => h1 H1 g1 Q' q
theorem w_ifE {t : TT} {ta tb : TE} (h : W c (t σ) kn n fun b kn1 n1 => (b = true → W c (ta σ) kn1 n1 Q) ∧ (b = false → W c (tb σ) kn1 n1 Q)) : W c (tIf t ta tb σ) kn n Q :=
  fun H g Q' q => h H g _ fun b kn1 n1 H1 h1 g1 => by
    cases b with
    | true => exact iteT (h1.1 rfl H1 g1 Q' q)
    | false => exact iteF (h1.2 rfl H1 g1 Q' q)
theorem w_andV {ta tb : TE} (h : W c (ta σ) kn n fun x kn1 n1 => ∃ b, x = .bl b ∧ (b = true → W c (tb σ) kn1 n1 Q) ∧ (b = false → Q (.bl false) kn1 n1)) : W c (tAndV ta tb σ) kn n Q :=
  fun H g Q' q => h H g _ fun x kn1 n1 H1 h1 g1 => by
    obtain ⟨b, e, h2, h3⟩ := h1
    refine ⟨b, e, ?_⟩
    cases b with
    | true => exact iteT (h2 rfl H1 g1 Q' q)
    | false => exact iteF (q _ _ _ _ (h3 rfl) g1)
theorem w_orV {ta tb : TE} (h : W c (ta σ) kn n fun x kn1 n1 => ∃ b, x = .bl b ∧ (b = false → W c (tb σ) kn1 n1 Q) ∧ (b = true → Q (.bl true) kn1 n1)) : W c (tOrV ta tb σ) kn n Q :=
  fun H g Q' q => h H g _ fun x kn1 n1 H1 h1 g1 => by
    obtain ⟨b, e, h2, h3⟩ := h1
    refine ⟨b, e, ?_⟩
    cases b with
    | true => exact iteT (q _ _ _ _ (h3 rfl) g1)
    | false => exact iteF (h2 rfl H1 g1 Q' q)
theorem w_notV {ta : TE} (h : W c (ta σ) kn n fun x kn1 n1 => ∃ b, x = .bl b ∧ Q (.bl (!b)) kn1 n1) : W c (tNotV ta σ) kn n Q :=
  fun H g Q' q => h H g _ fun x kn1 n1 H1 h1 g1 => by
    obtain ⟨b, e, h2⟩ := h1
    exact ⟨b, e, q _ _ _ _ h2 g1⟩

/-! ### tests -/
theorem w_test {t : TE} (h : W c (t σ) kn n fun x kn1 n1 => ∃ b, x = .bl b ∧ QB b kn1 n1) : W c (tTest t σ) kn n QB :=
  fun H g Q' q => h H g _ fun x kn1 n1 H1 h1 g1 => by
    obtain ⟨b, e, h2⟩ := h1
    exact ⟨b, e, q _ _ _ _ h2 g1⟩
theorem w_B {t : TE} (h : W c (t σ) kn n fun x kn1 n1 => ∃ b, x = .bl b ∧ QB b kn1 n1) : W c (tB t σ) kn n QB :=
  fun H g Q' q => h H g _ fun x kn1 n1 H1 h1 g1 => by
    obtain ⟨b, e, h2⟩ := h1
    exact ⟨b, e, q _ _ _ _ h2 g1⟩
theorem w_and {t u : TT} (h : W c (t σ) kn n fun b kn1 n1 => (b = true → W c (u σ) kn1 n1 QB) ∧ (b = false → QB false kn1 n1)) : W c (tAnd t u σ) kn n QB :=
  fun H g Q' q => h H g _ fun b kn1 n1 H1 h1 g1 => by
    cases b with
    | true => exact iteT (h1.1 rfl H1 g1 Q' q)
    | false => exact iteF (q _ _ _ _ (h1.2 rfl) g1)
theorem w_or {t u : TT} (h : W c (t σ) kn n fun b kn1 n1 => (b = false → W c (u σ) kn1 n1 QB) ∧ (b = true → QB true kn1 n1)) : W c (tOr t u σ) kn n QB :=
  fun H g Q' q => h H g _ fun b kn1 n1 H1 h1 g1 => by
    cases b with
    | true => exact iteT (q _ _ _ _ (h1.2 rfl) g1)
    | false => exact iteF (h1.1 rfl H1 g1 Q' q)
theorem w_not {t : TT} (h : W c (t σ) kn n fun b kn1 n1 => QB (!b) kn1 n1) : W c (tNot t σ) kn n QB :=
  fun H g Q' q => h H g _ fun b kn1 n1 H1 h1 g1 => q _ _ _ _ h1 g1

/-! ### slices -/
theorem w_noPart (q : QO none kn n) : W c (tNoPart σ) kn n QO := fun H g _ k => k _ kn n H q g
theorem w_part {t : TE} (h : W c (t σ) kn n fun x kn1 n1 => ∃ i, x = .int i ∧ QO (some i) kn1 n1) : W c (tPart t σ) kn n QO :=
  fun H g Q' q => h H g _ fun x kn1 n1 H1 h1 g1 => by
    obtain ⟨i, e, h2⟩ := h1
    exact ⟨i, e, q _ _ _ _ h2 g1⟩
theorem w_sl {r : V → Option Int → Option Int → Hp → VK → Prop} {te : TE} {tl th : TO}
    (h : W c (te σ) kn n fun x kn1 n1 => W c (tl σ) kn1 n1 fun l kn2 n2 => W c (th σ) kn2 n2 fun u kn3 n3 => W c (r x l u) kn3 n3 Q) : W c (tSl r te tl th σ) kn n Q :=
  fun H g Q' q => h H g _ fun x kn1 n1 H1 h1 g1 => h1 H1 g1 _ fun l kn2 n2 H2 h2 g2 => h2 H2 g2 _ fun u kn3 n3 H3 h3 g3 => h3 H3 g3 Q' q
theorem r_slL {p : Addr} {xs : List V} {lo hi : Option Int} (h : kn p = some (.lst xs)) (q : ∀ l, kn l = none → Q (.ref l) (upd kn l (.lst (cutV xs lo hi))) n) : W c (rSlL K (.ref p) lo hi) kn n Q :=
  fun H g _ k => ⟨p, xs, rfl, sql (g.ex _ _ h), fun l hl => k _ _ _ _ (q l (g.free hl)) (g.new hl)⟩

/-! ### fields, objects -/
theorem w_fld {ta : TE} {f : Str} (h : W c (ta σ) kn n fun x kn1 n1 => ∃ a C dx fs v, x = .ref a ∧ kn1 a = some (.ins C dx fs) ∧ Cls K C ∧ NoAttr K C f ∧ fs.lookup f = some v ∧ Q v kn1 n1) : W c (tFld K ta f σ) kn n Q :=
  fun H g Q' q => h H g _ fun x kn1 n1 H1 h1 g1 => by
    obtain ⟨a, C, dx, fs, v, e, h2, hc, hn, hl, h3⟩ := h1
    exact ⟨a, C, dx, fs, v, e, g1.ex _ _ h2, hc, hn, hl, q _ _ _ _ h3 g1⟩

/-! ### statements -/
variable {D : AE}
theorem s_next (q : D.nx σ kn n) : WS c tNext D σ kn n := fun H g D' f => f.nx σ kn n H q g
theorem s_seq {t u : TS} (h : WS c t { D with nx := fun σ1 kn1 n1 => WS c u D σ1 kn1 n1 } σ kn n) : WS c (tSeq t u) D σ kn n :=
  fun H g D' f => h H g { D' with nx := u D' } ⟨fun σ1 kn1 n1 H1 h1 g1 => h1 H1 g1 D' f, f.rt, f.bk, f.ct⟩
theorem s_ret {te : TE} (h : W c (te σ) kn n D.rt) : WS c (tRet te) D σ kn n := fun H g D' f => h H g D'.rt fun v kn1 n1 H1 h1 g1 => f.rt v kn1 n1 H1 h1 g1
theorem s_retN (h : D.rt .non kn n) : WS c tRetN D σ kn n := fun H g D' f => f.rt _ kn n H h g
theorem s_drop {te : TE} (h : W c (te σ) kn n fun _ kn1 n1 => D.nx σ kn1 n1) : WS c (tDrop te) D σ kn n := fun H g D' f => h H g _ fun v kn1 n1 H1 h1 g1 => f.nx σ kn1 n1 H1 h1 g1
theorem s_brk (h : D.bk σ kn n) : WS c tBreak D σ kn n := fun H g D' f => f.bk σ kn n H h g
theorem s_cont (h : D.ct σ kn n) : WS c tCont D σ kn n := fun H g D' f => f.ct σ kn n H h g
theorem s_if {t : TT} {u w : TS} (h : W c (t σ) kn n fun b kn1 n1 => (b = true → WS c u D σ kn1 n1) ∧ (b = false → WS c w D σ kn1 n1)) : WS c (tIfS t u w) D σ kn n :=
  fun H g D' f => h H g _ fun b kn1 n1 H1 h1 g1 => by
    cases b with
    | true => exact iteT (h1.1 rfl H1 g1 D' f)
    | false => exact iteF (h1.2 rfl H1 g1 D' f)
/-- targets -/
def WG (c : Cw) (gt : TG) (v : V) (σ : L2.St) (kn : Hp) (n : Nat) (N : L2.St → Hp → Nat → Prop) : Prop :=
  ∀ H, Good c kn n H → ∀ N' : L2.St → Hp → Prop, (∀ σ1 kn1 n1 H1, N σ1 kn1 n1 → Good c kn1 n1 H1 → N' σ1 H1) → gt v σ H N'
theorem g_name {i : Nat} {v : V} {N : L2.St → Hp → Nat → Prop} (h : N (σ.set i (some v)) kn n) : WG c (gName i) v σ kn n N := fun H g N' f => f _ kn n H h g
def WGs (c : Cw) (gt : TGs) (vs : List V) (σ : L2.St) (kn : Hp) (n : Nat) (N : L2.St → Hp → Nat → Prop) : Prop :=
  ∀ H, Good c kn n H → ∀ N' : L2.St → Hp → Prop, (∀ σ1 kn1 n1 H1, N σ1 kn1 n1 → Good c kn1 n1 H1 → N' σ1 H1) → gt vs σ H N'
theorem g_nil {N : L2.St → Hp → Nat → Prop} (h : N σ kn n) : WGs c gNil [] σ kn n N := fun H g N' f => ⟨rfl, f _ kn n H h g⟩
theorem g_cons {t : TG} {u : TGs} {v : V} {r : List V} {N : L2.St → Hp → Nat → Prop} (h : WG c t v σ kn n fun σ1 kn1 n1 => WGs c u r σ1 kn1 n1 N) : WGs c (gCons t u) (v :: r) σ kn n N :=
  fun H g N' f => ⟨v, r, rfl, h H g _ fun σ1 kn1 n1 H1 h1 g1 => h1 H1 g1 N' f⟩
theorem g_tup {k : Nat} {t : TGs} {a : Addr} {xs : List V} {N : L2.St → Hp → Nat → Prop} (h : kn a = some (.tup xs)) (hl : xs.length = k) (q : WGs c t xs σ kn n N) : WG c (gTup K k t) (.ref a) σ kn n N :=
  fun H g N' f => ⟨a, xs, rfl, sqt (g.ex _ _ h), hl, q H g N' f⟩
theorem s_asg {te : TE} {gt : TG} (h : W c (te σ) kn n fun v kn1 n1 => WG c gt v σ kn1 n1 D.nx) : WS c (tAsg te gt) D σ kn n :=
  fun H g D' f => h H g _ fun v kn1 n1 H1 h1 g1 => h1 H1 g1 D'.nx fun σ2 kn2 n2 H2 h2 g2 => f.nx σ2 kn2 n2 H2 h2 g2
theorem s_set {te : TE} {i : Nat} (h : W c (te σ) kn n fun v kn1 n1 => D.nx (σ.set i (some v)) kn1 n1) : WS c (tAsg te (gName i)) D σ kn n :=
  s_asg (h.mono fun _ _ _ q => g_name q)
theorem s_par {i j : Nat} {ta : TA} (h : W c (ta σ) kn n fun vs kn1 n1 => ∃ v w, vs = [v, w] ∧ D.nx ((σ.set i (some v)).set j (some w)) kn1 n1) : WS c (tPar i j ta) D σ kn n :=
  fun H g D' f => h H g _ fun vs kn1 n1 H1 h1 g1 => by
    obtain ⟨v, w, e, h2⟩ := h1
    exact ⟨v, w, e, f.nx _ _ _ _ h2 g1⟩
theorem g_set {to ti : TE} {v : V} {N : L2.St → Hp → Nat → Prop}
    (h : W c (to σ) kn n fun o kn1 n1 => W c (ti σ) kn1 n1 fun i kn2 n2 => ∃ p xs k j, o = .ref p ∧ i = .int k ∧ kn2 p = some (.lst xs) ∧ ixN xs.length k = some j ∧ N σ (upd kn2 p (.lst (xs.set j v))) n2) : WG c (gSub to ti rSetL) v σ kn n N :=
  fun H g N' f => h H g _ fun o kn1 n1 H1 h1 g1 => h1 H1 g1 _ fun i kn2 n2 H2 h2 g2 => by
    obtain ⟨p, xs, k, j, e1, e2, e3, e4, h3⟩ := h2
    exact ⟨p, xs, k, j, e1, e2, g2.ex _ _ e3, e4, f _ _ _ _ h3 (g2.put e3 rfl)⟩

/-! ### loops -/
theorem s_forR1 {ta : TA} {gt : TG} {tb : TS} {j : Int} (Pv : Nat → L2.St → Hp → Nat → Prop)
    (h : W c (ta σ) kn n fun vs kn1 n1 => vs = [.int j] ∧ -(2 ^ 62) ≤ j ∧ j < 2 ^ 62 ∧ Pv 0 σ kn1 n1)
    (hs : ∀ i σ' kn' n', i < j.toNat → Pv i σ' kn' n' → WG c gt (.int (i : Int)) σ' kn' n' fun σ2 kn2 n2 => WS c tb { D with nx := Pv (i + 1), ct := Pv (i + 1), bk := D.nx } σ2 kn2 n2)
    (hd : ∀ σ' kn' n', Pv j.toNat σ' kn' n' → D.nx σ' kn' n') : WS c (tFor (iRng1 ta) gt tb) D σ kn n :=
  fun H g D' f => h H g _ fun vs kn1 n1 H1 h1 g1 => by
    obtain ⟨e, b1, b2, h2⟩ := h1
    refine ⟨j, e, b1, b2, for_range (lo := 0) (n := j.toNat) (fun i σ' H' => ∃ kn' n', Pv i σ' kn' n' ∧ Good c kn' n' H') ⟨kn1, n1, h2, g1⟩ (fun i σ' H' hi p => ?_) (fun σ' H' p => ?_)⟩
    · obtain ⟨kn', n', p, g'⟩ := p
      have e0 : (0 : Int) + (i : Int) = (i : Int) := Int.zero_add _
      rw [e0]
      refine hs i σ' kn' n' hi p H' g' _ fun σ2 kn2 n2 H2 h2 g2 => h2 H2 g2 _ ⟨fun σ3 kn3 n3 H3 h3 g3 => ⟨kn3, n3, h3, g3⟩, f.rt, fun σ3 kn3 n3 H3 h3 g3 => f.nx _ _ _ _ h3 g3, fun σ3 kn3 n3 H3 h3 g3 => ⟨kn3, n3, h3, g3⟩⟩
    · obtain ⟨kn', n', p, g'⟩ := p
      exact f.nx _ _ _ _ (hd σ' kn' n' p) g'
end
end AW

namespace AW
open PySem PySem.Spec PyProof.Rows L2 LamX

/-! ### contexts: a def without a pen -/
/-- all that the caller had, but what kn0 knows and may change -/
def pureC (kn0 H0 : Hp) : Cw where
  inv _ H := Kept kn0 H0 H
  res x := H0 x ≠ none ∧ kn0 x = none
  live n H x k r := by
    obtain ⟨r1, r2⟩ := r
    cases e : H0 x with
    | none => exact absurd e r1
    | some o =>
      rw [k x o e (.inl r2)]
      exact fun z => nomatch z
  step n kn H H' k r s := fun x o e h => by
    refine s x o (k x o e h) ?_
    rcases h with h | h
    · exact .inl (r x ⟨(by rw [e]; exact fun z => nomatch z), h⟩)
    · exact .inr h
  up _ _ _ h _ := h
theorem pure_start {kn H : Hp} (h : Ext kn H) (t : ∀ x o, kn x = some o → isTbl o = false) : Good (pureC kn H) kn 0 H := ⟨h, Kept.refl, fun _ r => r.2, t⟩
theorem pure_any {kn0 H0 kn H : Hp} {n m : Nat} (g : Good (pureC kn0 H0) kn n H) : Good (pureC kn0 H0) kn m H := ⟨g.ex, g.inv, g.res, g.nt⟩
/-- a state of the callee is one of the caller -/
theorem Good.back {c : Cw} {kn kn' H H' : Hp} {n m : Nat} (g : Good c kn n H) (h : Good (pureC kn H) kn' m H') : Good c kn' n H' :=
  ⟨h.ex, c.step n kn H H' g.inv g.res h.inv, fun x r => h.res x ⟨c.live n H x g.inv r, g.res x r⟩, h.nt⟩

theorem both_t {A B : Prop} (h : A) : (true = true → A) ∧ (true = false → B) := ⟨fun _ => h, fun z => Bool.noConfusion z⟩
theorem both_f {A B : Prop} (h : B) : (false = true → A) ∧ (false = false → B) := ⟨fun z => Bool.noConfusion z, fun _ => h⟩
abbrev AK := V → Hp → Prop
abbrev AXK := Value → Option Addr → Hp → Prop
/-- a promise told of what is known -/
def liftX (B : List V → Hp → AK → AXK → Prop) : Sp := fun vs H Q E => ∃ kn, Ext kn H ∧ (∀ x o, kn x = some o → isTbl o = false) ∧ B vs kn (fun v kn' => ∀ n' H', Good (pureC kn H) kn' n' H' → Q v H') (fun cls d kn' => ∀ n' H', Good (pureC kn H) kn' n' H' → E cls d H')
def MonoX (B : List V → Hp → AK → AXK → Prop) : Prop := ∀ vs kn Q R E F, (∀ v k, Q v k → R v k) → (∀ cls d k, E cls d k → F cls d k) → B vs kn Q E → B vs kn R F
abbrev noX (B : List V → Hp → AK → Prop) : List V → Hp → AK → AXK → Prop := fun vs kn Q _ => B vs kn Q
section
variable {c : Cw} {kn : Hp} {n : Nat} {σ : L2.St} {Q : V → Hp → Nat → Prop} {K : PySem.W.Frag}
theorem sp_call {B : List V → Hp → AK → AXK → Prop} {vs : List V} {E : XK} {EA : Value → Option Addr → Hp → Nat → Prop} (hm : MonoX B)
    (hE : ∀ cls d kn' n' H', EA cls d kn' n' → Good c kn' n' H' → E cls d H') (h : B vs kn (fun v k => Q v k n) (fun cls d k => EA cls d k n)) : W c (fun H Q' => liftX B vs H Q' E) kn n Q :=
  fun H g Q' q => ⟨kn, g.ex, g.nt, hm vs kn _ _ _ _ (fun v k hq n' H' g' => q v k n H' hq (g.back g')) (fun cls d k he n' H' g' => hE cls d k n H' he (g.back g')) h⟩
theorem w_callX {B : List V → Hp → AK → AXK → Prop} {dvs : List V} {E : XK} {t : TA} {EA : Value → Option Addr → Hp → Nat → Prop} (hm : MonoX B)
    (hE : ∀ cls d kn' n' H', EA cls d kn' n' → Good c kn' n' H' → E cls d H') (h : W c (t σ) kn n fun vs kn1 n1 => B (vs ++ dvs) kn1 (fun v k => Q v k n1) (fun cls d k => EA cls d k n1)) : W c (tCall (liftX B) dvs E t σ) kn n Q :=
  fun H g Q' q => h H g _ fun vs kn1 n1 H1 h1 g1 => sp_call hm hE h1 H1 g1 Q' q
theorem w_call0 {B : List V → Hp → AK → AXK → Prop} {dvs : List V} {E : XK} {t : TA} (hm : MonoX B)
    (h : W c (t σ) kn n fun vs kn1 n1 => B (vs ++ dvs) kn1 (fun v k => Q v k n1) (fun _ _ _ => False)) : W c (tCall (liftX B) dvs E t σ) kn n Q :=
  w_callX (EA := fun _ _ _ _ => False) hm (fun _ _ _ _ _ h => h.elim) h
/-- the ends of a def's body -/
abbrev bodyE (c : Cw) (Q : VK) : AE := { nx := fun _ kn n => ∀ H', Good c kn n H' → Q .non H', rt := fun v kn n => ∀ H', Good c kn n H' → Q v H' }
theorem fits_body {c : Cw} {Q : VK} : Fits c (bodyE c Q) { nx := fun _ H' => Q .non H', rt := Q } :=
  ⟨fun σ kn n H h g => h H g, fun v kn n H h g => h H g, fun _ _ _ _ h _ => h.elim, fun _ _ _ _ h _ => h.elim⟩
theorem body_of {c : Cw} {t : TS} {Q : VK} {H : Hp} (g : Good c kn n H) (h : WS c t (bodyE c Q) σ kn n) : t { nx := fun _ H' => Q .non H', rt := Q } σ H := h H g _ fits_body
theorem s_mono {D D' : AE} {t : TS} (h : WS c t D σ kn n) (e1 : ∀ σ kn n, D.nx σ kn n → D'.nx σ kn n) (e2 : ∀ v kn n, D.rt v kn n → D'.rt v kn n) (e3 : ∀ σ kn n, D.bk σ kn n → D'.bk σ kn n) (e4 : ∀ σ kn n, D.ct σ kn n → D'.ct σ kn n) : WS c t D' σ kn n :=
  fun H g D2 f => h H g D2 ⟨fun σ kn n H h g => f.nx σ kn n H (e1 _ _ _ h) g, fun v kn n H h g => f.rt v kn n H (e2 _ _ _ h) g, fun σ kn n H h g => f.bk σ kn n H (e3 _ _ _ h) g, fun σ kn n H h g => f.ct σ kn n H (e4 _ _ _ h) g⟩
/-- the ways of a statement are joined -/
theorem s_join {D : AE} {t : TS} (J : L2.St → Hp → Nat → Prop) (h : WS c t { D with nx := J } σ kn n) (k : ∀ σ' kn' n', J σ' kn' n' → D.nx σ' kn' n') : WS c t D σ kn n :=
  s_mono h k (fun _ _ _ h => h) (fun _ _ _ h => h) (fun _ _ _ h => h)
theorem s_seqJ {D : AE} {t u : TS} (J : L2.St → Hp → Nat → Prop) (h : WS c t { D with nx := J } σ kn n) (k : ∀ σ' kn' n', J σ' kn' n' → WS c u D σ' kn' n') : WS c (tSeq t u) D σ kn n :=
  s_seq (s_join J h k)

/-! ### built-ins by names of their own -/
def rInt1 : List V → Hp → VK → Prop := fun xs H Q => (∃ i, xs = [.int i] ∧ Q (.int i) H) ∨ ∃ k, xs = [.bl k] ∧ Q (.int (if k then 1 else 0)) H
theorem c_int {X : Cx} : CallR X (.type "int") rInt1 := call_int1
theorem r_int1 {i : Int} (q : Q (.int i) kn n) : W c (rInt1 [.int i]) kn n Q := fun H g _ k => .inl ⟨i, rfl, k _ kn n H q g⟩
theorem r_int1b {b : Bool} (q : Q (.int (if b then 1 else 0)) kn n) : W c (rInt1 [.bl b]) kn n Q := fun H g _ k => .inr ⟨b, rfl, k _ kn n H q g⟩
def rAbs : List V → Hp → VK → Prop := fun xs H Q => ∃ i, xs = [.int i] ∧ Q (.int (if i < 0 then -i else i)) H
theorem c_abs {X : Cx} : CallR X (.builtin "abs") rAbs := call_abs
theorem r_abs {i : Int} (q : Q (.int (if i < 0 then -i else i)) kn n) : W c (rAbs [.int i]) kn n Q := fun H g _ k => ⟨i, rfl, k _ kn n H q g⟩
def rLenQ (K : PySem.W.Frag) : List V → Hp → VK → Prop := fun xs H Q => ∃ p ys, xs = [.ref p] ∧ (SqL K H p ys ∨ SqT K H p ys) ∧ Q (.int ys.length) H
theorem c_len {X : Cx} : CallR X (.builtin "len") (rLenQ X.K) := call_len_seq
theorem r_lenL {p : Addr} {xs : List V} (h : kn p = some (.lst xs)) (q : Q (.int xs.length) kn n) : W c (rLenQ K [.ref p]) kn n Q := fun H g _ k => ⟨p, xs, rfl, .inl (sql (g.ex _ _ h)), k _ kn n H q g⟩
theorem r_lenT {p : Addr} {xs : List V} (h : kn p = some (.tup xs)) (q : Q (.int xs.length) kn n) : W c (rLenQ K [.ref p]) kn n Q := fun H g _ k => ⟨p, xs, rfl, .inr (sqt (g.ex _ _ h)), k _ kn n H q g⟩
def rListQ (K : PySem.W.Frag) : List V → Hp → VK → Prop := fun xs H Q => ∃ p ys, xs = [.ref p] ∧ (SqL K H p ys ∨ SqT K H p ys) ∧ ∀ l, H l = none → Q (.ref l) (upd H l (.lst ys))
theorem c_list {X : Cx} : CallR X (.type "list") (rListQ X.K) := call_list_of
theorem r_listL {p : Addr} {xs : List V} (h : kn p = some (.lst xs)) (q : ∀ l, kn l = none → Q (.ref l) (upd kn l (.lst xs)) n) : W c (rListQ K [.ref p]) kn n Q := fun H g _ k => ⟨p, xs, rfl, .inl (sql (g.ex _ _ h)), fun l hl => k _ _ _ _ (q l (g.free hl)) (g.new hl)⟩
def rStrI : List V → Hp → VK → Prop := fun xs H Q => ∃ i, xs = [.int i] ∧ i.natAbs.log2 < 1920 ∧ Q (.str (toString i)) H
theorem c_strI {X : Cx} : CallR X (.type "str") rStrI := call_str_int
theorem r_strI {i : Int} (h : i.natAbs.log2 < 1920) (q : Q (.str (toString i)) kn n) : W c (rStrI [.int i]) kn n Q := fun H g _ k => ⟨i, rfl, h, k _ kn n H q g⟩

/-! ### == of data -/
theorem r_eqD {x y : V} {d e : PyData} (hx : Dp K kn x d) (hy : Dp K kn y e) (sx : SeqAt.shaped d = true) (sy : SeqAt.shaped e = true) (hmono : ∀ H v d, Ext kn H → Dp K kn v d → Dp K H v d) (q : Q (.bl (PyData.eqv d e)) kn n) : W c (rEqD K x y) kn n Q :=
  fun H g _ k => ⟨d, e, hmono H x d g.ex hx, hmono H y e g.ex hy, sx, sy, k _ kn n H q g⟩
mutual
theorem Dp.ext {H H' : Hp} (e : Ext H H') : ∀ (d : PyData) (v : V), Dp K H v d → Dp K H' v d
  | .none, _, h => by cases h; exact .non
  | .bool b, _, h => by cases h; exact .bl b
  | .int i, _, h => by cases h; exact .int i
  | .str x, _, h => by cases h; exact .str x
  | .list ds, _, h => by
    cases h with
    | lst hs ha => exact .lst (hs.ext e) (Dp.extAll e ds _ ha)
  | .tuple ds, _, h => by
    cases h with
    | tup hs ha => exact .tup (hs.ext e) (Dp.extAll e ds _ ha)
  | .dict _, _, h => by cases h
theorem Dp.extAll {H H' : Hp} (e : Ext H H') : ∀ (ds : List PyData) (vs : List V), DpAll K H vs ds → DpAll K H' vs ds
  | [], _, h => by cases h; exact .nil
  | d :: ds, _, h => by
    cases h with
    | cons h1 h2 => exact .cons (Dp.ext e d _ h1) (Dp.extAll e ds _ h2)
end
theorem r_eq_d {x y : V} {d e : PyData} (hx : Dp K kn x d) (hy : Dp K kn y e) (sx : SeqAt.shaped d = true) (sy : SeqAt.shaped e = true) (q : Q (.bl (PyData.eqv d e)) kn n) : W c (rEqD K x y) kn n Q :=
  r_eqD hx hy sx sy (fun H v d e h => Dp.ext e d v h) q
theorem r_ne_d {x y : V} {d e : PyData} (hx : Dp K kn x d) (hy : Dp K kn y e) (sx : SeqAt.shaped d = true) (sy : SeqAt.shaped e = true) (q : Q (.bl (!PyData.eqv d e)) kn n) : W c (rNeD K x y) kn n Q :=
  fun H g _ k => ⟨d, e, Dp.ext g.ex d x hx, Dp.ext g.ex e y hy, sx, sy, k _ kn n H q g⟩
end
end AW

/-! Operators of own classes. -/
namespace OX
open PySem PySem.W PySem.Calls PyProof.Rows Builtin
section
variable {prog : Program} {w : World} {A : Around} {E : Value → Shared → Prop} {s : Shared} {K : Frag} {x C f : Addr} {ox : Obj} {od : Option Obj} {b : Value}

theorem numSlot_own {M : Model} {h : Heap} {nm : String} (X : K.In h) (hs : findIn K (.ref C) (PySem.dunder nm) = some (some (.ref f))) (hr : findIn K (.ref C) (dunderR nm) = some none) :
    Looks M h (numberSlotInPython (.ref C) nm) true := by
  intro A Q E s k q
  unfold numberSlotInPython
  dsimp only
  refine wpAny_bind (looks_findIn X hs A _ E s k ?_)
  show wpAny M A (pure true >>= _) _ _ _
  refine wpAny_bind (wpAny_pure ?_)
  refine wpAny_bind (looks_findIn X hr A _ E s k ?_)
  show wpAny M A (pure false >>= _) _ _ _
  refine wpAny_bind (wpAny_pure ?_)
  simp only [Bool.or_false, if_true]
  exact wpAny_pure q
/-- an operator of an own class, the other operand of a built-in type -/
theorem binop1_T {nm T : String} {r : Bool} {o : Option Value} {Q : Value → Shared → Prop} (X : K.In s.heap) (I : InstAt s.heap x ox C od) (hb : Looks (model prog w) s.heap (typeOf b) (.type T)) (hc : selfFirst K C = true)
    (hs : findIn K (.ref C) (PySem.dunder nm) = some (some (.ref f))) (hf : isFn K (.ref f) = true) (hr : findIn K (.ref C) (dunderR nm) = some none) (fill : fillsNumberSlot (.type T) nm = pure r)
    (sub : subIn K (.type T) (.ref C) = some false) (hT : typeLookup (.type T) (dunderR nm) = pure o)
    (h : wpAny (model prog w) A (call (.ref f) [.ref x, b]) (PySem.W.CmpBack Q) E s) : wpAny (model prog w) A (binaryOp1 nm (.ref x) b) (fun r s' => ∃ v, r = some v ∧ Q v s') E s := by
  obtain ⟨cd, hcd, hm⟩ := any_some hc
  obtain ⟨rest, hm⟩ : ∃ rest, cd.mro = .ref C :: rest := by
    cases q : cd.mro with
    | nil => rw [q] at hm; cases hm
    | cons a r => rw [q] at hm; exact ⟨r, by rw [List.head?_cons] at hm; cases (beq_iff_eq.mp hm); rfl⟩
  have ne : ((Value.ref C) == (Value.type T)) = false := beq_eq_false_iff_ne.mpr (fun z => nomatch z)
  have last : ∀ {α : Type} (k : Option Value → Sem α) (P : α → Shared → Prop), (∀ v s', PySem.W.CmpBack Q v s' → wpAny (model prog w) A (k (some v)) P E s') → wpAny (model prog w) A (tryMethod (.ref x) (PySem.dunder nm) b >>= k) P E s := fun k P hk => by
    refine wpAny_bind ?_
    unfold tryMethod
    refine wpAny_bind (special_fn X I hs (beq_iff_eq.mp hf) (wpAny_mono h (fun v s' hv => ?_) fun _ _ e => e))
    cases v <;> first | exact hv.elim | exact wpAny_pure (hk _ _ hv)
  unfold binaryOp1
  refine wpAny_bind (I.type.here (wpAny_bind (hb.here (wpAny_bind ((fills_K X hcd hm hs).here ?_)))))
  rw [ne]
  simp only [Bool.false_eq_true, if_false]
  refine wpAny_bind (wpAny_of_eq fill ?_)
  cases r with
  | false =>
    simp only [Bool.and_false, Bool.false_eq_true, if_false, Bool.false_and]
    refine wpAny_bind (wpAny_pure ?_)
    simp only [Bool.false_eq_true, if_false, if_true]
    refine last _ _ fun v s' hv => ?_
    cases v <;> first | exact hv.elim | exact wpAny_pure ⟨_, rfl, hv⟩
  | true =>
    simp only [Bool.and_true, if_true]
    refine wpAny_bind ((looks_subIn X sub).here ?_)
    simp only [Bool.false_eq_true, if_false, Bool.not_false, Bool.and_true, if_true]
    refine wpAny_bind ((numSlot_own X hs hr).here ?_)
    simp only [if_true]
    refine wpAny_bind (wpAny_of_eq (show numberSlotInPython (.type T) nm = pure false from rfl) ?_)
    simp only [Bool.not_false, if_true]
    refine wpAny_bind (wpAny_of_eq hT ?_)
    refine last _ _ fun v s' hv => ?_
    cases v <;> first | exact hv.elim | exact wpAny_pure ⟨_, rfl, hv⟩
/-- .. the other operand of the same class -/
theorem binop1_C {nm : String} {Q : Value → Shared → Prop} (X : K.In s.heap) (I : InstAt s.heap x ox C od) (hb : Looks (model prog w) s.heap (typeOf b) (.ref C)) (hc : selfFirst K C = true)
    (hs : findIn K (.ref C) (PySem.dunder nm) = some (some (.ref f))) (hf : isFn K (.ref f) = true)
    (h : wpAny (model prog w) A (call (.ref f) [.ref x, b]) (PySem.W.CmpBack Q) E s) : wpAny (model prog w) A (binaryOp1 nm (.ref x) b) (fun r s' => ∃ v, r = some v ∧ Q v s') E s := by
  obtain ⟨cd, hcd, hm⟩ := any_some hc
  obtain ⟨rest, hm⟩ : ∃ rest, cd.mro = .ref C :: rest := by
    cases q : cd.mro with
    | nil => rw [q] at hm; cases hm
    | cons a r => rw [q] at hm; exact ⟨r, by rw [List.head?_cons] at hm; cases (beq_iff_eq.mp hm); rfl⟩
  unfold binaryOp1
  refine wpAny_bind (I.type.here (wpAny_bind (hb.here (wpAny_bind ((fills_K X hcd hm hs).here ?_)))))
  simp only [beq_self_eq_true, if_true]
  refine wpAny_bind (wpAny_pure ?_)
  simp only [Bool.and_false, Bool.false_eq_true, if_false, Bool.false_and]
  refine wpAny_bind (wpAny_pure ?_)
  simp only [Bool.false_eq_true, if_false]
  refine wpAny_bind (m := tryMethod (.ref x) _ b) ?_
  unfold tryMethod
  refine wpAny_bind (special_fn X I hs (beq_iff_eq.mp hf) (wpAny_mono h (fun v s' hv => ?_) fun _ _ e => e))
  cases v <;> first | exact hv.elim | exact wpAny_pure (wpAny_pure ⟨_, rfl, hv⟩)
theorem binop_of {op : Operator} {a : Value} {Q : Value → Shared → Prop} (h : wpAny (model prog w) A (binaryOp1 op.info.2 a b) (fun r s' => ∃ v, r = some v ∧ Q v s') E s) : wpAny (model prog w) A (binaryOp op a b) Q E s := by
  unfold binaryOp
  refine wpAny_holding (wpAny_bind (wpAny_mono h (fun r s' z => ?_) fun _ _ z => z))
  obtain ⟨v, rfl, q⟩ := z
  exact wpAny_pure q
theorem inplace_of {op : Operator} {Q : Value → Shared → Prop} (I : InstAt s.heap x ox C od) (hno : Looks (model prog w) s.heap (fillsInplaceSlot (.ref C) op.info.2 (op == .Add)) false)
    (h : wpAny (model prog w) A (binaryOp1 op.info.2 (.ref x) b) (fun r s' => ∃ v, r = some v ∧ Q v s') E s) : wpAny (model prog w) A (inplaceOp op (.ref x) b) Q E s := by
  unfold inplaceOp
  refine wpAny_holding (wpAny_bind (I.type.here (wpAny_bind (hno.here ?_))))
  simp only [Bool.false_eq_true, if_false]
  refine wpAny_bind (wpAny_mono h (fun r s' z => ?_) fun _ _ z => z)
  obtain ⟨v, rfl, q⟩ := z
  exact wpAny_pure q
/-- a class with no other own class above it has no slot in place -/
theorem noInplace {M : Model} {h : Heap} {nm : String} {add : Bool} {cd : ClassData} (X : K.In h) (hc : clsIn K C = some cd) (hm : cd.mro = [.ref C, .type "object"]) (hi : findIn K (.ref C) (dunderI nm) = some none)
    (ho : typeLookup (.type "object") (dunderI nm) = pure none) : Looks M h (fillsInplaceSlot (.ref C) nm add) false := by
  intro A Q E s k q
  unfold fillsInplaceSlot
  dsimp only
  refine wpAny_bind ((looks_clsIn X hc).andThen (f := fun cd => pure cd.mro) .now A _ E s k ?_)
  rw [hm, List.anyM_cons]
  refine wpAny_bind (wpAny_bind (looks_findIn X hi A _ E s k ?_))
  dsimp only
  refine wpAny_pure ?_
  simp only [Bool.false_eq_true, if_false]
  rw [List.anyM_cons, ho]
  refine wpAny_bind (wpAny_bind (wpAny_pure ?_))
  dsimp only
  refine wpAny_pure ?_
  simp only [Bool.false_eq_true, if_false, List.anyM_nil]
  exact wpAny_pure q

/-! ### != by an own == -/
theorem ifBound_bi {M : Model} {id : String} {name : Str} {args : List Value} {Q : Option Value → Shared → Prop} (X : K.In s.heap) (I : InstAt s.heap x ox C od) (hs : findIn K (.ref C) name = some (some (.builtin id)))
    (hbd : bindSpecial (.builtin id) (.ref x) = pure (.builtin id, [.ref x])) (h : wpAny M A (call (.builtin id) (.ref x :: args)) (fun v => Q (some v)) E s) : wpAny M A (callSpecialIfBound? (.ref x) name args) Q E s := by
  simp only [callSpecialIfBound?, bindSpecialIfBound?]
  refine wpAny_holding (wpAny_bind (wpAny_bind (wpAny_bind (I.type.here ((looks_findIn X hs).here ?_)))))
  refine wpAny_bind (wpAny_askSetting (wpAny_ite ?_))
  have fin : wpAny M A (call (.builtin id) ([.ref x] ++ args) >>= fun v => pure (some v)) Q E s := wpAny_bind (wpAny_mono h (fun v s' h' => wpAny_pure h') fun _ _ h' => h')
  rw [hbd]
  split
  · exact wpAny_bind (wpAny_pure (wpAny_pure (by exact fin)))
  · exact wpAny_tryCatch (wpAny_bind (wpAny_pure (wpAny_pure (by exact fin))))
/-- x != b, __eq__ the text's own, __ne__ object's -/
theorem ne_own {tb : Value} {Q : Value → Shared → Prop} (hu : A.units + 1 < cLine) (X : K.In s.heap) (I : InstAt s.heap x ox C od) (hb : Looks (model prog w) s.heap (typeOf b) tb) (hn : notFirst K C tb = true)
    (hs : findIn K (.ref C) "__eq__" = some (some (.ref f))) (hf : isFn K (.ref f) = true) (hne : findIn K (.ref C) "__ne__" = some (some (.builtin "object.__ne__"))) (hm : mroIn K C (.type "object") = some true)
    (h : wpAny (model prog w) A.in1 (call (.ref f) [.ref x, b]) (fun v s' => ∃ k, v = .bool k ∧ Q (.bool (!k)) s') E s) : wpAny (model prog w) A (richCompare .NotEq (.ref x) b) Q E s := by
  have hu0 : A.units < cLine := Nat.lt_of_succ_lt hu
  have sub : Looks (model prog w) s.heap (isInstance (.ref x) (.type "object")) true := I.type.andThen (looks_mroIn X hm)
  have one : wpAny (model prog w) A (tryCompare (.ref x) "__ne__" b) (fun r s' => ∃ k, r = some (.bool k) ∧ Q (.bool k) s') E s := by
    unfold tryCompare
    refine wpAny_bind (ifBound_bi X I hne (F.cmp_object.ne.bind (.ref x)) (wpAny_call (codeAny_call_builtin F.cmp_object.ne.plain F.cmpEntry_ne (W.check_slot F.cmpKind_ne F.cmpSplit_ne sub (F.cmpArgs_ne _ _) ?_))))
    unfold Builtin.«object.__ne__»
    refine wpAny_bind (wpAny_of_eq (a := ((Value.ref x : Value), [b])) (by first | rfl | (simp only [slotArgs]; rfl)) ?_)
    dsimp only
    refine wpAny_bind (wpAny_cRoomFor (show A.in1.units < cLine from hu) ?_)
    refine wpAny_bind (ifBound_K X I hs hf (wpAny_mono h (fun v s' hv => ?_) fun _ _ e => e))
    obtain ⟨k, rfl, hq⟩ := hv
    dsimp only
    refine wpAny_bind (wpAny_truthy_bool ?_)
    exact wpAny_pure (wpAny_pure ⟨_, rfl, hq⟩)
  unfold richCompare
  simp only [oneThing_ref]
  refine wpAny_holding (wpAny_bind (wpAny_cRoomFor hu0 ?_))
  refine wpAny_bind (I.type.here (wpAny_bind (hb.here ?_)))
  split
  · rename_i q
    have e : subIn K tb (.ref C) = some false := by
      rcases Bool.or_eq_true_iff.mp hn with e | e
      · rw [beq_iff_eq.mp e] at q; simp at q
      · exact beq_iff_eq.mp e
    refine wpAny_bind ((looks_subIn X e).here ?_)
    simp only [Bool.false_eq_true, if_false]
    refine wpAny_bind (wpAny_mono one (fun r s' z => ?_) fun _ _ e => e)
    obtain ⟨v, rfl, hq⟩ := z
    exact wpAny_pure hq
  · refine wpAny_bind (wpAny_pure ?_)
    simp only [Bool.false_eq_true, if_false]
    refine wpAny_bind (wpAny_mono one (fun r s' z => ?_) fun _ _ e => e)
    obtain ⟨v, rfl, hq⟩ := z
    exact wpAny_pure hq
end
end OX

/-! Own operators as rules over the abstract heap. -/
namespace L2
open PySem PySem.Spec PyProof.Rows
section
variable {X : Cx} {CX : CXT} {k : Nat} {f C : Addr} {fd : FuncData} {ps : List Str} {sp : Sp} {E : XK}
theorem callA {A : Around} {pins : List (Addr × Obj)} {σ : St} {H : Hp} {s : Shared} {Q : VK} {us : List Value} {vs : List V} (F : FnOk X.prog X.w X.K X.mg X.base CX k f fd ps sp) (hr : Room k A) (hfr : A.frames = X.A.frames)
    (hb : Binds X.K fd ps []) (hx : Passes CX X E) (I : Inv X pins σ H s) (r : Vals vs us) (h : sp vs H Q E) : wpAny (model X.prog X.w) A (call (.ref f) us) (EP X pins σ Q) X.xe s := by
  have hl : us.length = ps.length := by rw [← r.length]; exact F.len _ _ _ _ h
  have e0 : Env0 X.prog X.w X.K X.mg X.base A X.stack s H := by
    have e := I.env0
    exact ⟨by rw [hfr]; exact e.frames, e.mod, e.bs, e.bsz, e.funs, e.frf, e.hok, e.bare⟩
  refine wpAny_call (codeAny_mono (F.run A X.stack s H ⟨us, []⟩ us vs Q E hr e0 (by have := hb s us I.kIn (by simpa using hl); simpa using this) r h) fun r s' hq => ?_)
  cases r with
  | error e => exact hx pins σ H s e s' I hq
  | ok fl =>
    cases fl with
    | ret u => exact I.after hq
    | next => exact False.elim hq
    | brk => exact False.elim hq
    | cont => exact False.elim hq
theorem relV_ni {v : V} {u : Value} (r : RelV v u) {P : Value → Shared → Prop} {s : Shared} (h : P u s) : PySem.W.CmpBack P u s := by
  cases v with
  | non => cases (show u = Value.none from r); exact h
  | bl b => cases (show u = Value.bool b from r); exact h
  | int i => obtain ⟨t, e⟩ := (show ∃ t, u = Value.int i t from r); subst e; exact h
  | str x => obtain ⟨t, e⟩ := (show ∃ t, u = Value.str x t from r); subst e; exact h
  | byt x => obtain ⟨t, e⟩ := (show ∃ t, u = Value.bytes x t from r); subst e; exact h
  | flt x => obtain ⟨t, e⟩ := (show ∃ t, u = Value.float x t from r); subst e; exact h
  | ref a => cases (show u = Value.ref a from r); exact h
  | ty n => cases (show u = Value.type n from r); exact h

/-- what the written part says of an own class -/
structure OwnC (K : PySem.W.Frag) (C : Addr) : Prop where
  cl : Cls K C
  ha : PySem.W.findIn K (.ref C) "__class__" = some (some (.builtin "object.__class__"))
  hn : PySem.W.specialIn K (.builtin "object.__class__") "__get__" = some (some (.builtin "getset_descriptor.__get__"))
  htk : PySem.W.takesIn K (.builtin "object.__class__") = some true
  hm : PySem.W.mroIn K C (.type "object") = some true
theorem OwnC.ty {K : PySem.W.Frag} (c : OwnC K C) {H : Hp} {a dx : Addr} {fs : List (Str × V)} (e : H a = some (.ins C dx fs)) : TyX K H (.ref a) (.ref C) := .base (.ins e c.cl c.ha c.hn c.htk c.hm)
/-- an operator of the text's own for a left operand of the class at C -/
structure OpM (K : PySem.W.Frag) (op : Operator) (C f : Addr) : Prop where
  self : PySem.W.selfFirst K C = true
  hs : PySem.W.findIn K (.ref C) (PySem.dunder op.info.2) = some (some (.ref f))
  hf : PySem.W.isFn K (.ref f) = true
  hr : PySem.W.findIn K (.ref C) (dunderR op.info.2) = some none
/-- the right operand's type -/
inductive OpT (K : PySem.W.Frag) (op : Operator) (C : Addr) : Value → Prop where
  | own : OpT K op C (.ref C)
  | ty {T : String} {r : Bool} {o : Option Value} (fill : fillsNumberSlot (.type T) op.info.2 = pure r) (sub : PySem.W.subIn K (.type T) (.ref C) = some false) (hT : typeLookup (.type T) (dunderR op.info.2) = pure o) : OpT K op C (.type T)
def rOwn (K : PySem.W.Frag) (op : Operator) (C : Addr) (sp : Sp) (E : XK) : R2 := fun x y H Q => ∃ a dx fs t, x = .ref a ∧ H a = some (.ins C dx fs) ∧ TyX K H y t ∧ OpT K op C t ∧ sp [.ref a, y] H Q E
theorem typeOf_of {pins : List (Addr × Obj)} {σ : St} {H : Hp} {s : Shared} {y : V} {u t : Value} (I : Inv X pins σ H s) (ry : RelV y u) (ty : TyX X.K H y t) : PySem.W.Looks (model X.prog X.w) s.heap (typeOf u) t := by
  obtain ⟨P, Z, p, _⟩ := kit_of I ry ty
  exact Z.ty _ _ I.kIn p
theorem op_own {op : Operator} (M : OpM X.K op C f) (F : FnOk X.prog X.w X.K X.mg X.base CX k f fd ps sp) (hr : Room k X.A) (hb : Binds X.K fd ps []) (hx : Passes CX X E) : OpR X (binaryOp op) (rOwn X.K op C sp E) := by
  intro pins s σ H x y v u Q I rx ry h
  obtain ⟨a, dx, fs, t, rfl, ha, ty, ot, hq⟩ := h
  cases rx
  obtain ⟨mA, J, _⟩ := ins_get I.hok ha
  obtain ⟨od, J, _⟩ := J.look
  have hbt := typeOf_of I ry ty
  have hc : wpAny (model X.prog X.w) X.A (call (.ref f) [.ref a, u]) (PySem.W.CmpBack (EP X pins σ Q)) X.xe s :=
    wpAny_mono (callA (vs := [.ref a, y]) F hr rfl hb hx I (.cons rfl (.cons ry .nil)) hq) (fun z s' hz => by
      obtain ⟨v', H', I', rv, q⟩ := id hz
      exact relV_ni rv hz) fun _ _ z => z
  refine OX.binop_of ?_
  cases ot with
  | own => exact OX.binop1_C I.kIn J hbt M.self M.hs M.hf hc
  | ty fill sub hT => exact OX.binop1_T I.kIn J hbt M.self M.hs M.hf M.hr fill sub hT hc
/-- no method of the class works in place -/
structure NoIp (K : PySem.W.Frag) (op : Operator) (C : Addr) : Prop where
  cd : ∃ cd, PySem.W.clsIn K C = some cd ∧ cd.mro = [.ref C, .type "object"]
  hi : PySem.W.findIn K (.ref C) (dunderI op.info.2) = some none
  ho : typeLookup (.type "object") (dunderI op.info.2) = pure none
theorem ip_own {op : Operator} (M : OpM X.K op C f) (N : NoIp X.K op C) (F : FnOk X.prog X.w X.K X.mg X.base CX k f fd ps sp) (hr : Room k X.A) (hb : Binds X.K fd ps []) (hx : Passes CX X E) : PIp X op (rOwn X.K op C sp E) := by
  intro pins s σ H x y v u Q I rx ry h
  obtain ⟨a, dx, fs, t, rfl, ha, ty, ot, hq⟩ := h
  cases rx
  obtain ⟨mA, J, _⟩ := ins_get I.hok ha
  obtain ⟨od, J, _⟩ := J.look
  have hbt := typeOf_of I ry ty
  have hc : wpAny (model X.prog X.w) X.A (call (.ref f) [.ref a, u]) (PySem.W.CmpBack (EP X pins σ Q)) X.xe s :=
    wpAny_mono (callA (vs := [.ref a, y]) F hr rfl hb hx I (.cons rfl (.cons ry .nil)) hq) (fun z s' hz => by
      obtain ⟨v', H', I', rv, q⟩ := id hz
      exact relV_ni rv hz) fun _ _ z => z
  obtain ⟨cd, hcd, hm⟩ := N.cd
  refine OX.inplace_of J (OX.noInplace I.kIn hcd hm N.hi N.ho) ?_
  cases ot with
  | own => exact OX.binop1_C I.kIn J hbt M.self M.hs M.hf hc
  | ty fill sub hT => exact OX.binop1_T I.kIn J hbt M.self M.hs M.hf M.hr fill sub hT hc

/-! ### == and != by an own == -/
structure EqM (K : PySem.W.Frag) (C f : Addr) : Prop where
  hs : PySem.W.findIn K (.ref C) "__eq__" = some (some (.ref f))
  hf : PySem.W.isFn K (.ref f) = true
  hne : PySem.W.findIn K (.ref C) "__ne__" = some (some (.builtin "object.__ne__"))
  hm : PySem.W.mroIn K C (.type "object") = some true
def rEqO (K : PySem.W.Frag) (C : Addr) (sp : Sp) (neg : Bool) : R2 := fun x y H Q => ∃ a dx fs t, x = .ref a ∧ H a = some (.ins C dx fs) ∧ TyX K H y t ∧ PySem.W.notFirst K C t = true ∧
  sp [.ref a, y] H (fun v H' => ∃ b, v = .bl b ∧ Q (.bl (if neg then !b else b)) H') (fun _ _ _ => False)
theorem op_eqO (M : EqM X.K C f) (F : FnOk X.prog X.w X.K X.mg X.base CX k f fd ps sp) (hr : Room (k + 1) X.A) (hb : Binds X.K fd ps []) (hx : Passes CX X (fun _ _ _ => False)) : OpR X (compareOp .Eq) (rEqO X.K C sp false) := by
  intro pins s σ H x y v u Q I rx ry h
  obtain ⟨a, dx, fs, t, rfl, ha, ty, nf, hq⟩ := h
  cases rx
  obtain ⟨mA, J, _⟩ := ins_get I.hok ha
  obtain ⟨od, J, _⟩ := J.look
  have hbt := typeOf_of I ry ty
  obtain ⟨m, hF⟩ := I.fr
  show wpAny (model X.prog X.w) X.A (richCompare .Eq (.ref a) u) (EP X pins σ Q) X.xe s
  refine PySem.W.cmp_K (op := .Eq) hr.units0 hF I.ok.mod.kin J hbt nf M.hs M.hf ?_
  refine wpAny_mono (callA (vs := [.ref a, y]) F (hr.mono (Nat.le_succ _)) rfl hb hx I (.cons rfl (.cons ry .nil)) hq) (fun z s' hz => ?_) fun _ _ z => z
  obtain ⟨v', H', I', rv, b, e, q⟩ := hz
  subst e
  cases (show z = Value.bool b from rv)
  exact ⟨.bl b, H', I', rfl, q⟩
theorem op_neO (M : EqM X.K C f) (F : FnOk X.prog X.w X.K X.mg X.base CX k f fd ps sp) (hr : Room (k + 1) X.A) (hb : Binds X.K fd ps []) (hx : Passes CX X (fun _ _ _ => False)) : OpR X (compareOp .NotEq) (rEqO X.K C sp true) := by
  intro pins s σ H x y v u Q I rx ry h
  obtain ⟨a, dx, fs, t, rfl, ha, ty, nf, hq⟩ := h
  cases rx
  obtain ⟨mA, J, _⟩ := ins_get I.hok ha
  obtain ⟨od, J, _⟩ := J.look
  have hbt := typeOf_of I ry ty
  show wpAny (model X.prog X.w) X.A (richCompare .NotEq (.ref a) u) (EP X pins σ Q) X.xe s
  have hu := hr.un
  refine OX.ne_own (by omega) I.kIn J hbt nf M.hs M.hf M.hne M.hm ?_
  refine wpAny_mono (callA (A := X.A.in1) (vs := [.ref a, y]) F hr.in1 rfl hb hx I (.cons rfl (.cons ry .nil)) hq) (fun z s' hz => ?_) fun _ _ z => z
  obtain ⟨v', H', I', rv, b, e, q⟩ := hz
  subst e
  cases (show z = Value.bool b from rv)
  exact ⟨b, rfl, .bl (!b), H', I', rfl, q⟩
end
end L2

/-! A caught error that is kept behind its suite. -/
namespace L2
open PySem PySem.Spec PyProof.Rows
/-- an error of the class cls that was caught, its own dict at d -/
def exh (e : Addr) (cls : Value) (d : Option Addr) : HO := .ext fun h => ∃ oe : Obj, h.get? e = some oe ∧ Zc cls d oe ∧ ∃ vs, oe.data = .fields vs
theorem exh_ok {P : Program} {w : World} {H : Hp} {h : Heap} {e : Addr} {cls : Value} {d : Option Addr} {oe : Obj} (he : h.get? e = some oe) (hz : Zc cls d oe) (hf : ∃ vs, oe.data = .fields vs) : ObjOk P w H h e (exh e cls d) :=
  ⟨⟨oe, he, hz, hf⟩, ⟨oe, he⟩, fun h1 h2 z k => by
    obtain ⟨o, q, r⟩ := z
    exact ⟨o, k _ q, r⟩⟩
theorem exh_at {P : Program} {w : World} {H : Hp} {h : Heap} {e : Addr} {cls : Value} {d : Option Addr} (ok : HOk P w H h) (q : H e = some (exh e cls d)) : ∃ oe : Obj, h.get? e = some oe ∧ Zc cls d oe ∧ ∃ vs, oe.data = .fields vs := by
  have z : ObjOk P w H h e (.ext fun h => ∃ oe : Obj, h.get? e = some oe ∧ Zc cls d oe ∧ ∃ vs, oe.data = .fields vs) := ok e _ q
  exact z.1
section
variable {X : Cx} {pins : List (Addr × Obj)} {σ : St} {H : Hp} {s : Shared}
/-- an object that no one knew is known from now on -/
theorem Inv.track {a : Addr} {oe : Obj} {vs : Array Value} {cls : Value} {d : Option Addr} (I : Inv X ((a, oe) :: pins) σ H s) (hd : oe.data = .fields vs) (hz : Zc cls d oe) (n0 : X.s_0.heap.get? a = none) (np : ∀ p ∈ X.pn ++ pins, p.1 ≠ a) :
    Inv X pins σ (upd H a (exh a cls d)) s := by
  obtain ⟨ea, na, nL, nF, _⟩ := I.pin (a, oe) (List.mem_append_right _ List.mem_cons_self)
  have old : ∀ {b o}, X.s_0.heap.get? b = some o → b ≠ a := fun {b o} e z => by rw [z, n0] at e; cases e
  have kn : ∀ {b u}, H b = some u → b ≠ a := fun {b u} e => ne_of_none e na
  refine ⟨I.ok, I.os, I.bare, ⟨I.base.keep, I.base.slot, fun b o e n hx => ?_, I.base.there, fun b xs e => ?_, fun b o u e => ?_, fun b ps e => ?_⟩, I.loc, I.cell, ?_, fun y c e => ?_, fun p hp => ?_, fun b u e => ?_, I.len⟩
  · rw [upd_ne (old e)]
    exact I.base.free b o e n hx
  · have q := I.base.tups b xs e
    rw [upd_ne (kn q)]
    exact q
  · have q := I.base.frzs b o u e
    rw [upd_ne (kn q)]
    exact q
  · obtain ⟨m, q⟩ := I.base.tbls b ps e
    exact ⟨m, by rw [upd_ne (kn q)]; exact q⟩
  · rw [upd_ne (Ne.symm nL)]
    exact I.free
  · obtain ⟨v, oc, hoc, hdc⟩ := I.cell y c e
    have hca : c ≠ a := fun z => by
      rw [z] at hoc
      have e2 : some oe = some oc := ea.symm.trans hoc
      rw [← Option.some.inj e2, hd] at hdc
      cases hdc
    rw [upd_ne hca]
    exact I.freeC y c e
  · obtain ⟨e, n, r⟩ := I.pin p (by
      rcases List.mem_append.mp hp with h | h
      · exact List.mem_append_left _ h
      · exact List.mem_append_right _ (List.mem_cons_of_mem _ h))
    exact ⟨e, by rw [upd_ne (np p hp)]; exact n, r⟩
  · by_cases hb : b = a
    · rw [hb, upd_same] at e
      cases e
      rw [hb]
      exact exh_ok ea hz ⟨vs, hd⟩
    · rw [upd_ne hb] at e
      exact (I.hok b u e).stay (fun c w' _ q => q) (fun c q => by rw [upd_ne (kn q)]; exact q) fun c xs q => by rw [upd_ne (kn q)]; exact q
theorem Inv.unsuiteK {a : Addr} {q : Addr × Obj} (I : Inv (X.suite a (q :: (X.pn ++ pins))) [] σ H s) (ok : X.Ok) : Inv X (q :: pins) σ H s :=
  ⟨ok, I.os, I.bare, I.base, I.loc, I.cell, I.free, I.freeC, fun p hp => I.pin p (List.mem_append_left _ (by
    rcases List.mem_append.mp hp with h | h
    · exact List.mem_cons_of_mem _ (List.mem_append_left _ h)
    · rcases List.mem_cons.mp h with h | h
      · rw [h]; exact List.mem_cons_self
      · exact List.mem_cons_of_mem _ (List.mem_append_right _ h))), I.hok, I.len⟩
end
/-- the wish of a body whose errors the clause takes, all of them, and keeps -/
def wKeep (K : PySem.W.Frag) (c : Value) (i : Nat) (ts : Addr → Value → Option Addr → TS) (D : Ends) : WX := fun cls d σ H => PySem.W.exmOne K cls c = some true ∧ ∀ a, H a = none →
  ts a cls d { nx := fun σ' H' => D.nx (σ'.set i none) (upd H' a (exh a cls d)), rt := fun v H' => D.rt v (upd H' a (exh a cls d)), bk := fun σ' H' => D.bk (σ'.set i none) (upd H' a (exh a cls d)), ct := fun σ' H' => D.ct (σ'.set i none) (upd H' a (exh a cls d)) } (σ.set i (some (.ref a))) H
section
variable {X : Cx} {x n : Str} {c : Value} {i : Nat} {body suite : List Stmt} {b₀ : Stmt} {np pos pos' : Pos} {tb : WX → TS} {ts : Addr → Value → Option Addr → TS}
theorem ps_try_keep (hex : X.ex = []) (hs : X.stack = X.env :: X.outer) (hf : X.env.frame = some X.env.locals) (hN : X.N.Nodup) (hi : X.N[i]? = some n) (hln : X.env.kindOf n = some .local) (hc : Names X x c)
    (hb : ∀ (W : WX) (pn : List (Addr × Obj)) (xe : Value → Shared → Prop), Takes (X.tr pn xe) W → PassesOwn (model X.prog X.w) X.A X.env xe → PSs (X.tr pn xe) body (tb W))
    (hsu : ∀ (a : Addr) (oe : Obj) (cls : Value) (d : Option Addr) (pn : List (Addr × Obj)), Zc cls d oe → (∃ vs, oe.data = .fields vs) → PSs (X.suite a ((a, oe) :: pn)) (b₀ :: suite) (ts a cls d)) :
    PS X (.Try body [.ExceptHandler (some (.Name x np)) (some n) (b₀ :: suite) pos'] [] [] pos) (fun D σ H => tb (wKeep X.K c i ts D) D σ H) := by
  refine ⟨fun pins s σ H D I h => ?_⟩
  have ok := I.ok
  have frm : X.A.frames = some (X.env :: X.outer) := by rw [ok.frames, hs]
  refine wpAny_Try_except ?_
  refine wpAny_mono ((hb (wKeep X.K c i ts D) (X.pn ++ pins) (fun e s₁ => wpAny (model X.prog X.w) X.A (noteFrame e X.env) (fun _ s₂ => wpAny (model X.prog X.w) X.A (setFlight e none)
    (fun _ s₃ => wpAny (model X.prog X.w) X.A (handleBy e X.env [.ExceptHandler (some (.Name x np)) (some n) (b₀ :: suite) pos']) (SP X pins D) X.xe s₃) X.xe s₂) X.xe s₁) (fun u s' xx => ?_) PassesOwn.looking).run [] s σ H D (I.toTry _) h) (fun f s1 hsp => ?_) (fun _ _ z => z)
  · obtain ⟨a, B, sI, pins', σ', H', cls, d, rfl, J', nb, up, sky, na, os, ag, hyes1, hyes⟩ := xx
    have J : Inv X pins σ' H' sI := J'.ofTry ok
    show wpAny (model X.prog X.w) X.A (noteFrame (.ref a) X.env) _ _ _
    refine Sky.land Zc.steady frm hf (show Sky B (X.env :: X.outer) a (Zc cls d) X.env.locals s'.heap by rw [← hs]; exact sky) fun h3 fl3 up3 => ?_
    have J3 : Inv X pins σ' H' { s' with heap := h3 } := J.landed nb fl3.1 (up.trans up3) os ag
    obtain ⟨oe3, vs3, he3, hz3, hd3⟩ := fl3.there
    have nfr : a ∉ frs (X.env :: X.outer) := fun hm => by
      obtain ⟨_, o', e', hnf⟩ := fl3.2.2.1.mem hm
      rw [he3] at e'
      cases e'
      exact hnf _ hd3
    have nL : a ≠ X.env.locals := fun z => nfr (List.mem_filterMap.mpr ⟨X.env, List.mem_cons_self, by rw [hf, z]⟩)
    have nF : a ∉ X.fs := fun hm => by
      obtain ⟨e, he, q⟩ := List.mem_filterMap.mp hm
      exact nfr (List.mem_filterMap.mpr ⟨e, List.mem_cons_of_mem _ he, q⟩)
    have inB : ∀ {b : Addr} {o : Obj}, sI.heap.get? b = some o → b ∉ frs X.stack → b ≠ a := fun {b o} e hb z => by
      have q := nb b o e hb
      rw [z, fl3.2.1] at q
      cases q
    have n0 : X.s_0.heap.get? a = none := by
      cases e : X.s_0.heap.get? a with
      | none => rfl
      | some o =>
        obtain ⟨o', e'⟩ := J.base.there a o e (by rw [hex]; exact fun z => nomatch z)
        exact absurd rfl (inB e' (by rw [hs]; exact nfr))
    have npin : ∀ p ∈ X.pn ++ pins, p.1 ≠ a := fun p hp => by
      obtain ⟨e, _, n1, n2, _⟩ := J.pin p hp
      exact inB e fun hm => (List.mem_cons.mp (J.stkSub _ hm)).elim n1 n2
    refine wpAny_handleBy_cons (codeAny_handlers_test ?_) (by intro q; cases q)
    have LT : PySem.W.Looks (model X.prog X.w) h3 (typeOf (.ref a)) cls := fun A Q E s k q => wpAny_typeOf_ref (k _ _ he3) (by rw [hz3.1]; exact q)
    have S3 := J3.suite he3 hd3 na nL nF
    have test : ∀ {Q : Value → Shared → Prop} {E : Value → Shared → Prop}, Q c { s' with heap := h3 } → wpAny (model X.prog X.w) (X.A.mark (some (.ref a))) (eval (.Name x np) X.env) Q E { s' with heap := h3 } := fun {Q E} q => by
      obtain ⟨g1, g2, g3 | ⟨g3, g4, g5⟩⟩ := hc
      · exact ld_glob (X := X.suite a ((a, oe3) :: (X.pn ++ pins))) S3 g1 g3 q g2
      · exact ld_blt (X := X.suite a ((a, oe3) :: (X.pn ++ pins))) S3 g1 g3 g4 q g5 g2
    refine test ((PySem.W.exm_one (M := model X.prog X.w) (J3.kIn) LT hyes1).here ?_)
    refine codeAny_handlers_suite_as ?_
    refine HandSPX.lands_againZ fl3 fun h4 fl4 up4 => ?_
    have J4 : Inv X pins σ' H' { s' with heap := h4 } := J.landed nb fl4.1 ((up.trans up3).trans up4) os ag
    obtain ⟨oe4, vs4, he4, hz4, hd4⟩ := fl4.there
    refine store_ok (X := X.suite a ((a, oe4) :: (X.pn ++ pins))) (v := .ref a) (J4.suite he4 hd4 na nL nF) hN hi (.inl hln) rfl (fun s5 S5 => ?_) (.inr hln)
    refine wpAny_mono ((hsu a oe4 cls d (X.pn ++ pins) hz4 ⟨_, hd4⟩).run [] s5 _ H' _ S5 (hyes a na)) (fun f s6 hsp => ?_) (fun _ _ z => False.elim z)
    have fin : ∀ {σ6 : St} {H6 : Hp} {Q : Shared → Prop}, Inv (X.suite a ((a, oe4) :: (X.pn ++ pins))) [] σ6 H6 s6 → (∀ s7, Inv X pins (σ6.set i none) (upd H6 a (exh a cls d)) s7 → Q s7) →
        wpAny (model X.prog X.w) X.A (do bindName X.env n .none; unbindBehindTheSuite X.env n pos') (fun _ s7 => Q s7) X.xe s6 := fun {σ6 H6 Q} S6 hq => gone_ok (S6.unsuiteK ok) hN hi hln fun s7 J7 => hq s7 (J7.track hd4 hz4 n0 npin)
    cases f with
    | ret u =>
      obtain ⟨v6, σ6, H6, S6, r6, q6⟩ := hsp
      exact fin S6 fun s7 J7 => ⟨_, _, _, J7, r6, q6⟩
    | next =>
      obtain ⟨σ6, H6, S6, q6⟩ := hsp
      exact fin S6 fun s7 J7 => ⟨_, _, J7, q6⟩
    | cont =>
      obtain ⟨σ6, H6, S6, q6⟩ := hsp
      exact fin S6 fun s7 J7 => ⟨_, _, J7, q6⟩
    | brk =>
      obtain ⟨σ6, H6, S6, q6⟩ := hsp
      exact fin S6 fun s7 J7 => ⟨_, _, J7, q6⟩
  · cases f with
    | ret u =>
      obtain ⟨v, σ', H', J', r, q⟩ := hsp
      exact ⟨v, σ', H', J'.ofTry ok, r, q⟩
    | next =>
      obtain ⟨σ', H', J', q⟩ := hsp
      exact wpAny_execs_nil ⟨σ', H', J'.ofTry ok, q⟩
    | cont =>
      obtain ⟨σ', H', J', q⟩ := hsp
      exact ⟨σ', H', J'.ofTry ok, q⟩
    | brk =>
      obtain ⟨σ', H', J', q⟩ := hsp
      exact ⟨σ', H', J'.ofTry ok, q⟩
end
end L2
/-! ### isinstance and fields of such an error -/
namespace PySem.W
open PySem PySem.Calls PyProof.Rows Builtin Builtin.ObjectAttr
section
variable {prog : Program} {w : World} {A : Around} {E : Value → Shared → Prop} {s : Shared} {K : Frag} {x D : Addr} {ox : Obj} {od : Option Obj}
theorem kxc_class {Q : Option Value → Shared → Prop} (C : L2.ExcC K D) (hf : findObj K D od "__class__" = some (.bind (.builtin "getset_descriptor.__get__") (.builtin "object.__class__")))
    (X : K.In s.heap) (I : InstAt s.heap x ox D od) (h : Q (some (.ref D)) { s with toks := s.toks + 1 }) : wpAny (model prog w) A (getAttr? (.ref x) "__class__") Q E s := by
  obtain ⟨hp, g, dr, t, os⟩ := s
  have LT := I.type (M := model prog w)
  have LA := looks_findIn (M := model prog w) X C.hg
  have LB := looks_findIn (M := model prog w) X C.hk
  have LF := looks_find (M := model prog w) X I hf
  have isB : Looks (model prog w) hp (isInstance (.ref x) (.type "BaseException")) true := LT.andThen (looks_subIn X C.hs)
  have q0 : (false && onTheHeap (Value.builtin "BaseException.__getattribute__")) = false := rfl
  have q2 : (Value.builtin "BaseException.__getattribute__" == Value.builtin "object.__getattribute__") = false := by decide +kernel
  have q1 : (onTheHeap (Value.ref D) && Value.builtin "BaseException.__getattribute__" == Value.builtin "object.__getattribute__") = false := by rw [q2]; rfl
  unfold getAttr? getAttrBy? getAttrBy
  refine wpAny_bind (wpAny_mkText (wpAny_bind (wpAny_attempt (wpAny_holding (wpAny_bind (LT.at (wpAny_bind (LA.at ?_))))))))
  show wpAny _ _ (if (onTheHeap (Value.ref D) && Value.builtin "BaseException.__getattribute__" == Value.builtin "object.__getattribute__") = true then _ else _) _ _ _
  rw [q1, if_neg Bool.false_ne_true]
  unfold getAttrByItsOwn hookBefore
  refine wpAny_bind ?_
  rw [if_pos (show onTheHeap (Value.ref D) = true from rfl)]
  refine LB.at (wpAny_bind (wpAny_attempt (wpAny_holding ?_)))
  unfold callGetattribute
  rw [q0, if_neg Bool.false_ne_true]
  unfold boundAndCalled
  rw [PySem.F.excAttr_ValueError.ga.bind (.ref x)]
  refine wpAny_bind (wpAny_pure ?_)
  show wpAny _ _ (call (.builtin "BaseException.__getattribute__") [.ref x, .str "__class__" t]) _ _ _
  refine wpAny_call (codeAny_call_builtin PySem.F.excAttr_ValueError.ga.plain PySem.F.entry_bexc_ga ?_)
  refine @check_slot (model prog w) _ _ ⟨hp, g, dr, t + 1, os⟩ "BaseException.__getattribute__" "BaseException" "__getattribute__" (.ref x) [.str "__class__" t] [] _ (by decide +kernel) (by decide +kernel) isB (PySem.F.args_bexc_ga (.ref x) (.str "__class__" t)) ?_
  unfold Builtin.«object.__getattribute__»
  refine wpAny_bind (wpAny_of_eq (a := ((Value.ref x : Value), [Value.str "__class__" t])) (by first | rfl | (simp only [slotArgs]; rfl)) (wpAny_bind (wpAny_pure (wpAny_bind (LT.at (wpAny_bind (LF.at ?_)))))))
  show wpAny _ _ (holding [Value.builtin "object.__class__"] (call (.builtin "getset_descriptor.__get__") [.builtin "object.__class__", .ref x, .ref D]) >>= ret) _ _ _
  refine wpAny_bind (wpAny_holding (wpAny_call (class_get (s := ⟨hp, g, dr, t + 1, os⟩) (ox := ox) (od := od) X I C.hm (wpAny_pure ?_))))
  show wpAny _ _ (handedOut (.ref D)) _ _ _
  rw [handedOut_of (v := .ref D) rfl]
  first
    | exact wpAny_pure (wpAny_pure h)
    | exact wpAny_pure h
    | exact wpAny_pure (wpAny_bind (wpAny_pure (wpAny_pure h)))
theorem kxc_kit (C : L2.ExcC K D) (hf : findObj K D od "__class__" = some (.bind (.builtin "getset_descriptor.__get__") (.builtin "object.__class__"))) : KitX K (.ref x) (.ref D) (fun h => InstAt h x ox D od) where
  ty := fun _ _ _ I => I.type
  it := fun _ _ X _ => by
    obtain ⟨cd0, hc0, _⟩ := any_some C.hd
    unfold clsIn at hc0
    split at hc0
    · rename_i _ _ _ _ ho
      intro A' Q' E' s' k q
      unfold isType loadHead
      exact wpAny_bind (wpAny_loadPart (k _ _ (X _ _ ho)) (wpAny_pure q))
    · cases hc0
  ne := fun h tp dd its n sl X htp => by
    obtain ⟨cd0, hc0, _⟩ := any_some C.hd
    refine Bool.eq_false_iff.mpr fun q => ?_
    have e : D = tp := Value.ref.inj (beq_iff_eq.mp q)
    subst e
    unfold clsIn at hc0
    split at hc0
    · rename_i _ _ _ _ ho
      have z := (X _ _ ho).symm.trans htp
      cases z
    · cases hc0
  ca := fun X I k => kxc_class C hf X I k
end
end PySem.W
namespace L2
open PySem PySem.Spec PyProof.Rows
section
variable {X : Cx} {pins : List (Addr × Obj)} {σ : St} {H : Hp} {s : Shared}
theorem exh_inst {K : PySem.W.Frag} {a D : Addr} {d : Option Addr} {fs : List (Str × V)} (I : Inv X pins σ H s) (ea : H a = some (exh a (.ref D) d)) (ed : ∀ dd, d = some dd → H dd = some (.xd fs)) :
    ∃ (oe : Obj) (od : Option Obj), PySem.W.InstAt s.heap a oe D od ∧ (d.isSome = od.isSome) ∧ ∀ name, d.isSome = true → ∃ m : Str → Option Value, PySem.W.lookIn name (od.getD oe) = some (m name) ∧ ∀ f, RelO (fs.lookup f) (m f) := by
  obtain ⟨oe, hoe, ⟨z1, z2⟩, vs, hd⟩ := exh_at I.hok ea
  have nc : PySem.W.notCls oe = true := by unfold PySem.W.notCls; rw [hd] <;> rfl
  cases d with
  | none => exact ⟨oe, none, ⟨hoe, z1, nc, by rw [z2]; exact True.intro⟩, rfl, fun _ z => nomatch z⟩
  | some dd =>
    have hx : ObjOk X.prog X.w H s.heap dd (.xd fs) := I.hok dd _ (ed dd rfl)
    obtain ⟨mA, hns, hr⟩ := hx
    obtain ⟨od, ho, hl⟩ := lookIn_ns hns
    exact ⟨oe, some od, ⟨hoe, z1, nc, by rw [z2]; exact ho⟩, rfl, fun name _ => ⟨mA, hl name, hr⟩⟩
end
/-- isinstance(e, c), e an error that was caught and kept -/
def rIsK (K : PySem.W.Frag) : List V → Hp → VK → Prop := fun xs H Q => ∃ (a D dd : Addr) (fs : List (Str × V)) (c : V) (cv : Value) (b : Bool), xs = [.ref a, c] ∧ ClsV c cv ∧ H a = some (exh a (.ref D) (some dd)) ∧ H dd = some (.xd fs) ∧ ExcC K D ∧ PySem.W.kitOne K (.ref D) cv = some b ∧ Q (.bl b) H
theorem call_isK {X : Cx} : CallR X (.builtin "isinstance") (rIsK X.K) := by
  intro pins s σ H xs us Q I r h
  obtain ⟨a, D, dd, fs, c, cv, b, rfl, hcv, ea, ed, C, e, q⟩ := h
  obtain ⟨u1, u2, rfl, r1, r2⟩ := vals2 r
  cases (show u1 = Value.ref a from r1)
  have ec := hcv.eq r2
  subst ec
  obtain ⟨oe, od, J, hd, _⟩ := exh_inst (K := X.K) I ea (fun d' e' => by cases e'; exact ed)
  cases od with
  | none => cases hd
  | some od =>
    have hf := PySem.W.findObj_data (K := X.K) (C := D) (od := od) (name := "__class__") (by obtain ⟨cd, hc, _⟩ := PySem.W.any_some C.hd; rw [hc]; rfl) C.ha C.hn C.ht
    exact PySem.W.kia_one (PySem.W.kxc_kit C hf) I.kIn J e (fun z => nomatch z) fun tk => ⟨.bl b, H, I.tok tk, rfl, q⟩
/-- e.f, e such an error -/
def tXk (K : PySem.W.Frag) (te : TE) (f : Str) : TE := fun σ H Q => te σ H fun x H1 => ∃ (a C dd : Addr) (fs : List (Str × V)) (v : V), x = .ref a ∧ H1 a = some (exh a (.ref C) (some dd)) ∧ H1 dd = some (.xd fs) ∧ XfC K C ∧ PySem.W.findIn K (.ref C) f = some none ∧ fs.lookup f = some v ∧ Q v H1
theorem pe_xk {X : Cx} {e : Expr} {te : TE} {pos : Pos} {n : Str} (he : PE X e te) (hb : attributeBase e n X.env (eval e X.env) = eval e X.env := by rfl) : PE X (.Attribute e n pos) (tXk X.K te n) := by
  refine ⟨fun pins s σ H Q I h => attr_of hb (thn (he.run pins s σ H _ I h) fun u s1 hh => ?_)⟩
  obtain ⟨x, H1, I1, rx, a, C, dd, fs, v, ex, ea, ed, T, hno, l, q⟩ := hh
  subst ex
  obtain rfl : u = Value.ref a := rx
  obtain ⟨oe, od, J, hd, hl⟩ := exh_inst (K := X.K) I1 ea (fun d' e' => by cases e'; exact ed)
  cases od with
  | none => cases hd
  | some od =>
    obtain ⟨m, h1, h2⟩ := hl n rfl
    obtain ⟨u, hu, ru⟩ := RelO.some_of (v := v) (o := m n) (by rw [← l]; exact h2 n)
    exact HandSPX.exc_get I1.kIn J T.ga T.gg T.exC (PySem.W.findObj_own T.hdC hno rfl (by rw [← hu]; exact h1)) (handed_of ru) ⟨v, H1, I1.tok _, ru, q⟩
end L2

/-! repr of data: it asks which reprs are under way; a def's promise where none is. -/
namespace L2
open PySem PySem.Spec PyProof.Rows
/-- a promise that holds where no repr is under way -/
structure FnG (P : Program) (w : World) (K : PySem.W.Frag) (mg : Str → Option Value) (base : Heap) (CX : CXT) (k : Nat) (f : Addr) (fd : FuncData) (ps : List Str) (sp : Sp) : Prop where
  len : ∀ vs H Q E, sp vs H Q E → vs.length = ps.length
  run : ∀ (A : Around) (outer : List Env) (s : Shared) (H : Hp) (args : Args) (us : List Value) (vs : List V) (Q : VK) (E : XK), Room k A → A.guards = some [] → Env0 P w K mg base A outer s H → BindsTo s fd args (ps.zip us) → Vals vs us → sp vs H Q E →
    codeAny (model P w) A (.call (.ref f) args) (CR CX outer P w H s Q E) s
theorem FnOk.g {P : Program} {w : World} {K : PySem.W.Frag} {mg : Str → Option Value} {base : Heap} {CX : CXT} {k : Nat} {f : Addr} {fd : FuncData} {ps : List Str} {sp : Sp} (F : FnOk P w K mg base CX k f fd ps sp) : FnG P w K mg base CX k f fd ps sp :=
  ⟨F.len, fun A outer s H args us vs Q E hr _ => F.run A outer s H args us vs Q E hr⟩
section
variable {P : Program} {w : World} {K : PySem.W.Frag} {mg : Str → Option Value} {base : Heap}
theorem Fun.okG {x qual : Str} {st : Stmt} {f : Addr} {fd : FuncData} {N ps : List Str} {k : Nat} {sp : Sp} (F : Fun K x qual st f fd) (S : FnScope N ps (defScope st)) (len : ∀ vs H Q E, sp vs H Q E → vs.length = ps.length)
    (hbody : ∀ (cdv : Value) (A : Around) (outer : List Env) (s : Shared) (H : Hp) (vs : List V) (Q : VK) (E : XK), Room k (A.deeper (envOfC qual (defScope st) s.heap.objs.size f cdv)) → A.guards = some [] → sp vs H Q E →
      ∃ t, PSs (cxOf CX0 P w K mg base N qual (defScope st) f cdv A outer s H E).nox (defBody st) t ∧ t { nx := fun _ H' => Q .non H', rt := Q } (start N vs) H) : FnG P w K mg base CX0 (k + 1) f fd ps sp := by
  obtain ⟨oc, od, kV, doc, pm, an, cdv, ct, osl, rfl, lk, hcd⟩ := F.ex
  refine ⟨len, fun A outer s H args us vs Q E hr hg e0 hb r hsp => LamX.run_ofS lk hcd S hr e0 hb r (len _ _ _ _ hsp) fun hr' => ?_⟩
  obtain ⟨t, h, q⟩ := hbody cdv A outer s H vs Q E hr' hg hsp
  exact ⟨t, h.nox, q⟩
end
section
variable {X : Cx} {CX : CXT} {k : Nat} {f : Addr} {fd : FuncData} {ps : List Str} {sp : Sp} {E : XK} {x : Str} {ds : List Value} {dvs : List V} {e : Expr} {es : List Expr} {t : TA} {p pos : Pos}
theorem run_fnG {pins : List (Addr × Obj)} {σ : St} {H : Hp} {s : Shared} {Q : VK} {us : List Value} {vs : List V} (hG : X.A.guards = some []) (F : FnG X.prog X.w X.K X.mg X.base CX k f fd ps sp) (hr : Room k X.A) (hb : Binds X.K fd ps ds) (hd : Vals dvs ds)
    (hx : Passes CX X E) (I : Inv X pins σ H s) (r : Vals vs us) (h : sp (vs ++ dvs) H Q E) : wpAny (model X.prog X.w) X.A (call (.ref f) us) (EP X pins σ Q) X.xe s := by
  have rr : Vals (vs ++ dvs) (us ++ ds) := r.append hd
  have hlen : (us ++ ds).length = ps.length := by rw [← rr.length]; exact F.len _ _ _ _ h
  refine wpAny_call (codeAny_mono (F.run X.A X.stack s H ⟨us, []⟩ (us ++ ds) (vs ++ dvs) Q E hr hG I.env0 (hb s us I.kIn hlen) rr h) fun r s' hq => ?_)
  cases r with
  | error e => exact hx pins σ H s e s' I hq
  | ok fl =>
    cases fl with
    | ret u => exact I.after hq
    | next => exact False.elim hq
    | brk => exact False.elim hq
    | cont => exact False.elim hq
theorem pe_callG (hG : X.A.guards = some []) (F : FnG X.prog X.w X.K X.mg X.base CX k f fd ps sp) (hr : Room k X.A) (hg : Gl X x) (hm : X.mg x = some (.ref f)) (hk : PySem.W.keepIn X.K (.ref f) = true) (hb : Binds X.K fd ps ds) (hd : Vals dvs ds) (hx : Passes CX X E)
    (ha : PA X (e :: es) t) (hdb : (x == ("__debug__" : Str)) = false := by decide) (he : starEach (e :: es) X.env = (false, eval e X.env) :: starEach es X.env := by rfl) (hpl : (backTo pos (starEach es X.env)).any (·.1) = false := by rfl) :
    PE X (.Call (.Name x p) (e :: es) [] pos) (tCall sp dvs E t) := by
  refine ⟨fun pins s σ H Q I h => wpAny_Call_Name_kw (ld_glob I hg hm ?_ hdb)⟩
  refine PySem.W.callWith_K (h₀ := X.base) I.ok.mod.kin hk (thn (ha.run pos pins s σ H _ I h) fun us s1 ⟨vs, H1, I1, r, q⟩ => ⟨I1.kIn, run_fnG hG F hr hb hd hx I1 r q⟩) he hpl
/-- repr of a list or tuple of data -/
def rRepr (K : PySem.W.Frag) : List V → Hp → VK → Prop := fun xs H Q => ∃ (a : Addr) (d : PyData), xs = [.ref a] ∧ Dp K H (.ref a) d ∧ d.showable = true ∧ d.hasDict = false ∧ d.depth ≤ 64 ∧ d.shown.length ≤ sizeLine ∧ Q (.str d.shown) H
theorem c_repr (hG : X.A.guards = some []) (hu : X.A.units + 128 < cLine) : CallR X (.builtin "repr") (rRepr X.K) := by
  intro pins s σ H xs us Q I r h
  obtain ⟨a, d, rfl, hd, h1, h2, h3, h4, q⟩ := h
  obtain ⟨u, rfl, rx⟩ := vals1 r
  cases (show u = Value.ref a from rx)
  obtain ⟨as, hr⟩ := Dp.reads I d _ _ hd rx
  refine repr_of_reads' hr h1 (fun z => by rw [h2] at z; cases z) hG (by omega) (fun _ _ z => z) (fun h' u tk hk => ?_) h4
  exact ⟨.str d.shown, H, I.kept hk, ⟨u, rfl⟩, q⟩
end
end L2

namespace LamX
open PySem PySem.Spec PyProof.Rows L2
theorem law_callG {P : Program} {w : World} {K : PySem.W.Frag} {mg mBlt : Str → Option Value} {CX : CXT} {k : Nat} {fLaw a : Addr} {tabs : List (Addr × Addr)} {fdLaw : FuncData} {x : Str} {spc : Sp} {s₁ : Shared} {items : List Value} {nums : List Int}
    (KH : K.In s₁.heap) (nsG : s₁.heap.Ns mainGlobals mg) (hB2 : s₁.heap.Ns builtinsNs mBlt) (bltB : ∀ x : Str, x ≠ "__name__" → mBlt x = bootBuiltins x) (limG : s₁.heap.NoLimit) (gnE : s₁.gens = #[])
    (tabE : ∀ p ∈ tabs, s₁.heap.get? p.2 = some { cls := .none, data := .fields #[] }) (tabK : ∀ p ∈ tabs, K.lookup p.2 = none) (cdE : ∀ p ∈ tabs, PySem.W.CodeHd s₁.heap p.1 p.2)
    (bmE : ∃ (bmA : Addr) (obj : Obj), mg "__builtins__" = some (.ref bmA) ∧ bmA ≠ builtinsNs ∧ s₁.heap.get? bmA = some obj ∧ obj.cls = .type "module" ∧ obj.dict = some builtinsNs ∧ obj.data = .plain)
    (scE : s₁.heap.get? a = some { cls := .type "list", data := .seq items.toArray }) (inE : IntsAre items nums) (lnE : nums.length ≤ sizeLine) (rmE : Room k callerA)
    (FF : ∀ base : Heap, K.In base → base.Ns mainGlobals mg → (∀ p ∈ tabs, TabB base mg p.1 p.2) → L2.FnG P w K mg base CX k fLaw fdLaw [x] spc) (bdE : ∀ (s : Shared) (u : Value), BindsTo s fdLaw ⟨[u], []⟩ [(x, u)])
    (spE : ∀ H : Hp, (∀ p ∈ tabs, H p.2 = some (.tbl #[])) → SqL K H a (nums.map V.int) → spc [.ref a] H (fun v _ => v = .bl true) fun _ _ _ => False)
    (cxE : ∀ H e s', CX [] H s₁ (fun _ _ _ => False) e s' → False) :
    codeAny (model P w) callerA (.call (.ref fLaw) ⟨[.ref a], []⟩) (fun r s' => r = .ok (.ret (.bool true)) ∧ OldK s₁.heap s'.heap ∧ s'.os = s₁.os ∧ AllBare s'.gens) s₁ := by
  have rvs := vals_ints inE
  have lenW := inE.length
  have isTb : ∀ b : Addr, b ∈ tabs.map (·.2) → s₁.heap.get? b = some { cls := .none, data := .fields #[] } := fun b hB2 => by
    obtain ⟨p, memP, e⟩ := List.mem_map.mp hB2
    rw [← e]
    exact tabE p memP
  have notTb : a ∉ tabs.map (·.2) := fun zq => by
    have qq := isTb a zq
    rw [scE] at qq
    have z' : Data.seq items.toArray _ = Data.fields #[] := congrArg Obj.data (Option.some.inj qq)
    cases z'
  have inTb : ∀ p ∈ tabs, p.2 ∈ tabs.map (·.2) := fun p memP => List.mem_map.mpr ⟨p, memP, rfl⟩
  -- from an abstract heap in which nothing but the script and the tables may be tracked
  have main0 : ∀ H : Hp, (∀ p ∈ tabs, H p.2 = some (.tbl #[])) → (∀ b, H b = none ∨ b ∈ tabs.map (·.2) ∨ ∃ o xs, H b = some (.frz o (.lst xs))) → SqL K H a (nums.map V.int) → HOk P w H s₁.heap → (∀ b, H b ≠ none → b = a ∨ b ∈ tabs.map (·.2)) → (H a ≠ none → K.lookup a = none) →
      codeAny (model P w) callerA (.call (.ref fLaw) ⟨[.ref a], []⟩) (fun r s' => r = .ok (.ret (.bool true)) ∧ OldK s₁.heap s'.heap ∧ s'.os = s₁.os ∧ AllBare s'.gens) s₁ := by
    intro H Htab Hone Hscr Hok0 Hall HKn
    have toBase : ∀ {b : Addr} {o : Obj}, s₁.heap.get? b = some o → H b = none → (hidT s₁.heap H).get? b = some o := fun e n => hidT_get e n
    have notD : ∀ {b : Addr} {o : Obj}, s₁.heap.get? b = some o → (∀ items n, o.data ≠ .seq items n) → o.data ≠ .fields #[] → H b = none := fun {b o} e h11 hh => by
      cases qq : H b with
      | none => rfl
      | some u =>
        rcases Hall b (by rw [qq]; simp) with e' | e'
        · rw [e', scE] at e
          cases e
          exact (h11 _ _ rfl).elim
        · rw [isTb b e'] at e
          cases e
          exact (hh rfl).elim
    have notA : ∀ {b : Addr} {o : Obj} {es : Array DictEntry} {epp : Nat}, s₁.heap.get? b = some o → o.data = .dict es epp → H b = none := fun {b o es epp} e d => by
      refine notD e (fun items n zq => ?_) fun zq => ?_
      · rw [d] at zq
        cases zq
      · rw [d] at zq
        cases zq
    have nsB0 : ∀ {b : Addr} {m : Str → Option Value}, s₁.heap.Ns b m → (hidT s₁.heap H).Ns b m := fun {b m} ⟨o, es, epp, e, d, r⟩ => ⟨o, es, epp, toBase e (notA e d), d, r⟩
    have KBase : K.In (hidT s₁.heap H) := fun b o e => toBase (KH b o e) (by
      cases qq : H b with
      | none => rfl
      | some u =>
        rcases Hall b (by rw [qq]; simp) with e' | e'
        · rw [e'] at e qq
          rw [HKn (by rw [qq]; simp)] at e
          cases e
        · obtain ⟨p, memP, epp⟩ := List.mem_map.mp e'
          rw [← epp, tabK p memP] at e
          cases e)
    have modB : L2.Mod K mg (hidT s₁.heap H) := ⟨KBase, nsB0 nsG, ⟨mBlt, nsB0 hB2, bltB⟩, let ⟨mc, h11, hh⟩ := limG; ⟨mc, nsB0 h11, hh⟩⟩
    have tabB0 : ∀ p ∈ tabs, TabB (hidT s₁.heap H) mg p.1 p.2 := fun p memP => by
      have hTp := tabE p memP
      refine ⟨?_, ?_, fun zq => ?_⟩
      · obtain ⟨o, uus, file, tf, flags, tg, inF, text, tt, e1, r1, r2, r3, r4, r5, r6, r7, r8, hne⟩ := cdE p memP
        refine ⟨o, uus, file, tf, flags, tg, inF, text, tt, toBase e1 (notD e1 (fun items n zq => ?_) fun zq => ?_), r1, r2, r3, r4, r5, r6, r7, r8, hne⟩
        · rw [r2] at zq
          cases zq
        · rw [r2] at zq
          cases zq
          simp at r3
      · obtain ⟨bmA, obj, b1, b2, b3, b4, b5, b6⟩ := bmE
        have nG : bmA ≠ mainGlobals := fun qq => by
          obtain ⟨o, es, epp, e, hd, _⟩ := nsG
          rw [qq, e] at b3
          cases b3
          rw [hd] at b6
          cases b6
        have nP : bmA ≠ p.2 := fun qq => by
          rw [qq, hTp] at b3
          cases b3
          cases b6
        refine ⟨bmA, obj, b1, b2, nG, nP, toBase b3 (notD b3 (fun items n zq => ?_) fun zq => ?_), b4, b5, b6⟩
        · rw [b6] at zq
          cases zq
        · rw [b6] at zq
          cases zq
      · obtain ⟨o, es, epp, e, hd, _⟩ := nsG
        rw [zq, hTp] at e
        cases e
        cases hd
    have env0 : Env0 P w K mg (hidT s₁.heap H) callerA [] s₁ H := ⟨rfl, modB, fun b o e => of_hidT e, Nat.le_of_eq (hidT_size _ _), trivial, fun b hB2 => absurd (show b ∈ ([] : List Addr) from hB2) (by simp), Hok0, .of_eq gnE⟩
    refine codeAny_mono ((FF _ KBase (nsB0 nsG) tabB0).run callerA [] s₁ H ⟨[.ref a], []⟩ [.ref a] [.ref a] _ _ rmE rfl env0 (bdE s₁ (.ref a)) (.cons rfl .nil) (spE H Htab Hscr)) fun r s' h => ?_
    cases r with
    | error e => exact (cxE H e s' h).elim
    | ok fl =>
      cases fl with
      | next => exact False.elim h
      | brk => exact False.elim h
      | cont => exact False.elim h
      | ret u =>
        obtain ⟨v, H', osE, bareE, unk, Hok1, r', qq⟩ := h
        have q' : v = .bl true := qq
        subst q'
        obtain rfl : u = Value.bool true := r'
        have kept0 : ∀ b o, b ∉ tabs.map (·.2) → s₁.heap.get? b = some o → s'.heap.get? b = some o := fun b o nb e => by
          cases qq : H b with
          | none => exact unk.keep b o e qq (by intro zq; exact absurd (show b ∈ ([] : List Addr) from zq) (by simp)) (by simp)
          | some u =>
            rcases Hone b with zq | zq | ⟨obj, xs, zq⟩
            · rw [qq] at zq; cases zq
            · exact absurd zq nb
            · have zz := unk.frzs b obj _ zq
              obtain ⟨e1, _⟩ := Hok0 b _ zq
              obtain ⟨ee, _⟩ := Hok1 b _ zz
              rw [e] at e1; cases e1
              exact ee
        have grew : ∀ p ∈ tabs, ∃ rest : Array Value, s'.heap.get? p.2 = some { cls := .none, data := .fields rest } := fun p memP => by
          obtain ⟨rest, zq⟩ := unk.tbls p.2 #[] (Htab p memP)
          exact ⟨_, Hok1 p.2 _ zq⟩
        refine ⟨rfl, ⟨fun b o e => ?_, fun b o e => ?_⟩, osE, bareE⟩
        · by_cases hB2 : b ∈ tabs.map (·.2)
          · obtain ⟨p, memP, epp⟩ := List.mem_map.mp hB2
            obtain ⟨rest, hmo⟩ := grew p memP
            rw [← epp] at e ⊢
            rw [tabE p memP] at e
            cases e
            exact .inr (.inl ⟨((cdE p memP).tab (tabE p memP)).isCodeTable, rfl, #[], rest, rfl, by rw [Array.empty_append]; exact hmo⟩)
          · exact .inl (kept0 b o hB2 e)
        · by_cases hB2 : b ∈ tabs.map (·.2)
          · obtain ⟨p, memP, epp⟩ := List.mem_map.mp hB2
            obtain ⟨rest, hmo⟩ := grew p memP
            rw [← epp]
            exact ⟨_, hmo⟩
          · exact ⟨o, kept0 b o hB2 e⟩
  cases lookE : K.lookup a with
  | some o =>
    have e := KH a o lookE
    rw [scE] at e
    cases e
    refine main0 (fun b => if b ∈ tabs.map (·.2) then some (.tbl #[]) else none) (fun p memP => if_pos (inTb p memP)) (fun b => ?_) (.inr ⟨_, items.toArray, _, lookE, rfl, rfl, rfl, by rw [List.size_toArray, lenW]; exact lnE, by simpa using rvs⟩) (fun b u zq => ?_) (fun b zq => ?_) fun zq => absurd (show (if a ∈ tabs.map (·.2) then some (HO.tbl #[]) else none) = none from if_neg notTb) zq
    · by_cases hB2 : b ∈ tabs.map (·.2)
      · exact .inr (.inl hB2)
      · exact .inl (if_neg hB2)
    · by_cases hB2 : b ∈ tabs.map (·.2)
      · have z' := (if_pos hB2).symm.trans zq
        cases z'
        exact isTb b hB2
      · have z' := (if_neg hB2).symm.trans zq
        cases z'
    · by_cases hB2 : b ∈ tabs.map (·.2)
      · exact .inr hB2
      · exact absurd (if_neg hB2) zq
  | none =>
    refine main0 (fun b => if b = a then some (.frz { cls := .type "list", data := .seq items.toArray } (.lst (nums.map V.int))) else if b ∈ tabs.map (·.2) then some (.tbl #[]) else none) (fun p memP => (if_neg (show ¬ p.2 = a from fun zq => notTb (by rw [← zq]; exact inTb p memP))).trans (if_pos (inTb p memP))) (fun b => ?_)
      (.inl (.inr ⟨{ cls := .type "list", data := .seq items.toArray }, if_pos rfl⟩)) (fun b u zq => ?_) (fun b zq => ?_) fun _ => lookE
    · by_cases hB2 : b = a
      · exact .inr (.inr ⟨_, _, if_pos hB2⟩)
      · by_cases hb2 : b ∈ tabs.map (·.2)
        · exact .inr (.inl hb2)
        · exact .inl ((if_neg hB2).trans (if_neg hb2))
    · by_cases hB2 : b = a
      · have z' := (if_pos hB2).symm.trans zq
        cases z'
        rw [hB2]
        exact ⟨scE, by rw [List.length_map]; exact lnE, items, _, rvs, scE⟩
      · have z1 := (if_neg hB2).symm.trans zq
        by_cases hb2 : b ∈ tabs.map (·.2)
        · have z' := (if_pos hb2).symm.trans z1
          cases z'
          exact isTb b hb2
        · have z' := (if_neg hb2).symm.trans z1
          cases z'
    · by_cases hB2 : b = a
      · exact .inl hB2
      · by_cases hb2 : b ∈ tabs.map (·.2)
        · exact .inr hb2
        · exact absurd ((if_neg hB2).trans (if_neg hb2)) zq
/-- what is known of the law's promise at the head's heap h -/
def LawAtG (l : PySem.W.OpenLaw) (w : World) (K : PySem.W.Frag) (CX : CXT) (k n : Nat) (x : Str) (mg : Str → Option Value) (fLaw : Addr) (h : Heap) : Prop :=
  ∃ (fdLaw : FuncData) (tabs : List (Addr × Addr)) (spc : Sp), (∀ p ∈ tabs, h.get? p.2 = some { cls := .none, data := .fields #[] }) ∧ (∀ p ∈ tabs, K.lookup p.2 = none) ∧ (∀ p ∈ tabs, PySem.W.CodeHd h p.1 p.2) ∧ (∀ (s : Shared) (u : Value), BindsTo s fdLaw ⟨[u], []⟩ [(x, u)]) ∧
    (∀ (H : Hp) (a : Addr) (nums : List Int), nums.length ≤ n → (∀ zq ∈ nums, Builtin.Int.intBits zq ≤ 1048576) → (∀ p ∈ tabs, H p.2 = some (.tbl #[])) → SqL K H a (nums.map V.int) → spc [.ref a] H (fun v _ => v = .bl true) fun _ _ _ => False) ∧
    ∀ base : Heap, K.In base → base.Ns mainGlobals mg → (∀ p ∈ tabs, TabB base mg p.1 p.2) → L2.FnG l.prog w K mg base CX k fLaw fdLaw [x] spc
theorem walk_ofG {l : PySem.W.OpenLaw} {n k : Nat} {qq : Program} {loose : List Str} {XP : (Str → Option Value) → Heap → Prop} {YP : World → Heap → Prop} {d : DefRec} {K : Params → PySem.W.Frag} {CX : World → CXT} {x : Str}
    (hn : l.most = some n) (hn2 : n ≤ sizeLine) (hdf : d.params.defaults = []) (rmE : Room k callerA) (hY : ∀ (w : World) (h : Heap), YP w h → (K w.params).In h)
    (FF : ∀ (w : World) (mg : Str → Option Value) (fLaw : Addr) (h : Heap), YP w h → (K w.params).In h → h.Ns mainGlobals mg → mg d.name = some (.ref fLaw) → LawAtG l w (K w.params) (CX w) k n x mg fLaw h)
    (cxE : ∀ (w : World) (H : Hp) (s : Shared) (e : Value) (s' : Shared), CX w [] H s (fun _ _ _ => False) e s' → False) :
    PySem.W.WalkO qq loose XP YP l.row.toRowW d [] (fun f items => PySem.call f items) := by
  refine Att.attach_callB hn hdf fun w s₀ s₁ mg mBlt fLaw o pm cd doc a items nums G Y ho hd hcd hmg hobj hints hlen hbits gnE => ?_
  have KH := hY w _ Y
  obtain ⟨fdLaw, tabs, spc, tabE, tabK, cdE, hB2, spE, hF⟩ := FF w mg fLaw _ Y KH G.T.g hmg
  exact law_callG KH G.T.g G.T.b G.T.builtins G.T.nolimit gnE tabE tabK cdE G.T.bmain hobj hints (Nat.le_trans hlen hn2) rmE hF hB2 (fun H Htab Hscr => spE H a nums hlen hbits Htab Hscr) fun H e s' => cxE w H s₁ e s'
end LamX

/-! len(x), str(x) of an own class. -/
namespace L2
open PySem PySem.Spec PyProof.Rows
section
variable {X : Cx} {CX : CXT} {k : Nat} {f C : Addr} {fd : FuncData} {ps : List Str} {sp : Sp}
/-- a special method of the class -/
structure SpM (K : PySem.W.Frag) (C f : Addr) (name : Str) : Prop where
  hs : PySem.W.findIn K (.ref C) name = some (some (.ref f))
  hf : PySem.W.isFn K (.ref f) = true
def rLenO (C : Addr) (sp : Sp) : List V → Hp → VK → Prop := fun xs H Q => ∃ a dx fs, xs = [.ref a] ∧ H a = some (.ins C dx fs) ∧ sp [.ref a] H (fun v H' => ∃ n : Int, v = .int n ∧ (0 ≤ n ∧ n < 2 ^ 63) ∧ Q (.int n) H') (fun _ _ _ => False)
theorem c_lenO (M : SpM X.K C f "__len__") (F : FnOk X.prog X.w X.K X.mg X.base CX k f fd ps sp) (hr : Room (k + 1) X.A) (hb : Binds X.K fd ps []) (hx : Passes CX X (fun _ _ _ => False)) : CallR X (.builtin "len") (rLenO C sp) := by
  intro pins s σ H xs us Q I r h
  obtain ⟨a, dx, fs, rfl, ha, hq⟩ := h
  obtain ⟨u, rfl, rx⟩ := vals1 r
  cases (show u = Value.ref a from rx)
  obtain ⟨_, J, _⟩ := ins_get I.hok ha
  obtain ⟨_, J, _⟩ := J.look
  obtain ⟨_, hF⟩ := I.fr
  refine PySem.W.len_K hF I.ok.mod.kin J M.hs M.hf (wpAny_mono (callA (A := X.A.in1) (vs := [.ref a]) F hr.in1 rfl hb hx I (.cons rfl .nil) hq) (fun z s' hz => ?_) fun _ _ z => z)
  obtain ⟨v', H', I', rv, n, e, hn, q⟩ := hz
  subst e
  obtain ⟨t, rfl⟩ := (show ∃ t, z = Value.int n t from rv)
  exact ⟨hn, .int n, H', I'.tok _, ⟨_, rfl⟩, q⟩
def rStrO (C : Addr) (sp : Sp) : List V → Hp → VK → Prop := fun xs H Q => ∃ a dx fs, xs = [.ref a] ∧ H a = some (.ins C dx fs) ∧ sp [.ref a] H (fun v H' => ∃ x : Str, v = .str x ∧ Q (.str x) H') (fun _ _ _ => False)
theorem c_strO (M : SpM X.K C f "__str__") (F : FnOk X.prog X.w X.K X.mg X.base CX k f fd ps sp) (hr : Room (k + 2) X.A) (hb : Binds X.K fd ps []) (hx : Passes CX X (fun _ _ _ => False)) : CallR X (.type "str") (rStrO C sp) := by
  intro pins s σ H xs us Q I r h
  obtain ⟨a, dx, fs, rfl, ha, hq⟩ := h
  obtain ⟨u, rfl, rx⟩ := vals1 r
  cases (show u = Value.ref a from rx)
  obtain ⟨_, J, _⟩ := ins_get I.hok ha
  obtain ⟨_, J, _⟩ := J.look
  have hu := hr.un
  refine PySem.W.kso_call (by show X.A.units + 1 + 1 < cLine; omega) I.kIn J M.hs M.hf (wpAny_mono (callA (A := X.A.in1.in1) (vs := [.ref a]) F hr.in1.in1 rfl hb hx I (.cons rfl .nil) hq) (fun z s' hz => ?_) fun _ _ z => z)
  obtain ⟨v', H', I', rv, x, e, q⟩ := hz
  subst e
  obtain ⟨t, rfl⟩ := (show ∃ t, z = Value.str x t from rv)
  exact ⟨.str x, H', I', ⟨_, rfl⟩, q⟩
end
end L2

/-! Abstract rules for own classes, errors, lambdas, pens. -/
namespace L2
open PySem PySem.Spec PyProof.Rows
/-- as Fun.okG, the code object told -/
theorem Fun.okGC {P : Program} {w : World} {K : PySem.W.Frag} {mg : Str → Option Value} {base : Heap} {x qual : Str} {st : Stmt} {f : Addr} {fd : FuncData} {N ps : List Str} {k : Nat} {sp : Sp} (F : Fun K x qual st f fd) (S : FnScope N ps (defScope st)) (len : ∀ vs H Q E, sp vs H Q E → vs.length = ps.length)
    (hb : ∀ (A : Around) (outer : List Env) (s : Shared) (H : Hp) (vs : List V) (Q : VK) (E : XK), Room k (A.deeper (envOfC qual (defScope st) s.heap.objs.size f fd.code)) → A.guards = some [] → sp vs H Q E →
      ∃ t, PSs (cxOf CX0 P w K mg base N qual (defScope st) f fd.code A outer s H E).nox (defBody st) t ∧ t { nx := fun _ H' => Q .non H', rt := Q } (start N vs) H) : FnG P w K mg base CX0 (k + 1) f fd ps sp := by
  obtain ⟨oc, od, kV, doc, pm, an, cdv, ct, osl, rfl, lk, hcd⟩ := F.ex
  refine ⟨len, fun A outer s H args us vs Q E hr hg e0 hbd r hsp => LamX.run_ofS lk hcd S hr e0 hbd r (len _ _ _ _ hsp) fun hr' => ?_⟩
  obtain ⟨t, h, q⟩ := hb A outer s H vs Q E hr' hg hsp
  exact ⟨t, h.nox, q⟩
end L2
namespace AW
open PySem PySem.Spec PyProof.Rows L2 LamX ClX
theorem both_nt {A B : Prop} (h : B) : ((!true) = true → A) ∧ ((!true) = false → B) := ⟨fun z => Bool.noConfusion z, fun _ => h⟩
theorem both_nf {A B : Prop} (h : A) : ((!false) = true → A) ∧ ((!false) = false → B) := ⟨fun _ => h, fun z => Bool.noConfusion z⟩
theorem bor_t {A B : Prop} (h : B) : (true = false → A) ∧ (true = true → B) := ⟨fun z => Bool.noConfusion z, fun _ => h⟩
theorem bor_f {A B : Prop} (h : A) : (false = false → A) ∧ (false = true → B) := ⟨fun _ => h, fun z => Bool.noConfusion z⟩
theorem bor_nt {A B : Prop} (h : A) : ((!true) = false → A) ∧ ((!true) = true → B) := ⟨fun _ => h, fun z => Bool.noConfusion z⟩
theorem bor_nf {A B : Prop} (h : B) : ((!false) = false → A) ∧ ((!false) = true → B) := ⟨fun z => Bool.noConfusion z, fun _ => h⟩
theorem keep2 {kn : Hp} {a q : Addr} {o : HO} {u : HO} (h : a ≠ q) (e : kn a = some u) : upd kn q o a = some u := by
  rw [upd_ne h]
  exact e
section
variable {K : PySem.W.Frag} {H H' : Hp} {x : V} {t : Value}
theorem tyof_ext (e : Ext H H') (h : TyOf K H x t) : TyOf K H' x t := by
  cases h with
  | non => exact .non
  | bl x => exact .bl x
  | int i => exact .int i
  | str x => exact .str x
  | flt x => exact .flt x
  | lst h => exact .lst (e _ _ h)
  | frz h => exact .frz (e _ _ h)
  | tup h => exact .tup (e _ _ h)
  | dK h => exact .dK (e _ _ h)
  | dT h => exact .dT (e _ _ h)
  | ins h a b c d m => exact .ins (e _ _ h) a b c d m
theorem tyx_ext (e : Ext H H') (h : TyX K H x t) : TyX K H' x t := by
  cases h with
  | base b => exact .base (tyof_ext e b)
  | byt b => exact .byt b
  | set h => exact .set (e _ _ h)
  | kList h c => exact .kList h c
  | kTuple h c => exact .kTuple h c
  | kDict h c => exact .kDict h c
  | fTuple h => exact .fTuple (e _ _ h)
  | fDict h => exact .fDict (e _ _ h)
end
/-- the wish of errors -/
abbrev EAK := Value → Option Addr → Hp → Nat → Prop
def ErrOk (c : Cw) (EA : EAK) (E : XK) : Prop := ∀ cls d kn' n' H', EA cls d kn' n' → Good c kn' n' H' → E cls d H'
theorem err_no {c : Cw} {E : XK} : ErrOk c (fun _ _ _ _ => False) E := fun _ _ _ _ _ h => h.elim
abbrev bodyX (c : Cw) (E : XK) : EAK := fun cls d kn n => ∀ H', Good c kn n H' → E cls d H'
theorem err_body {c : Cw} {E : XK} : ErrOk c (bodyX c E) E := fun _ _ _ _ H' h g => h H' g
section
variable {c : Cw} {kn : Hp} {n : Nat} {σ : L2.St} {Q : V → Hp → Nat → Prop} {K : PySem.W.Frag} {E : XK} {EA : EAK} {B : List V → Hp → AK → AXK → Prop}
theorem r_isi {x cv : V} {t u : Value} {b : Bool} (k : ClsV cv u) (ty : TyX K kn x t) (e : PySem.W.kitOne K t u = some b) (q : Q (.bl b) kn n) : W c (rIsi K [x, cv]) kn n Q :=
  fun H g _ f => ⟨x, cv, t, u, b, rfl, k, tyx_ext g.ex ty, e, f _ kn n H q g⟩
theorem w_call {dvs : List V} {t : TA} (hm : MonoX B) (hE : ErrOk c EA E) (h : W c (t σ) kn n fun vs kn1 n1 => B (vs ++ dvs) kn1 (fun v k => Q v k n1) (fun cls d k => EA cls d k n1)) : W c (tCall (liftX B) dvs E t σ) kn n Q :=
  w_callX hm hE h
def rIsN : R2 := fun x y H Q => y = V.non ∧ Q (V.bl (decide (x = V.non))) H
theorem c_isN {X : Cx} : OpR X (compareOp .Is) rIsN := op_isN
theorem r_isN {x : V} (q : Q (.bl (decide (x = V.non))) kn n) : W c (rIsN x .non) kn n Q := fun H g _ k => ⟨rfl, k _ kn n H q g⟩
theorem r_isNt (q : Q (V.bl true) kn n) : W c (rIsN .non .non) kn n Q := fun H g _ k => ⟨rfl, k _ kn n H q g⟩
theorem r_isNr {a : Addr} (q : Q (V.bl false) kn n) : W c (rIsN (.ref a) .non) kn n Q := fun H g _ k => ⟨rfl, k _ kn n H q g⟩
theorem r_neV {v : V} (h : scal v v = true) (q : Q (V.bl false) kn n) : W c (rNe v v) kn n Q := r_ne h (by rw [decide_eq_true rfl]; exact q)
theorem r_eqV {v : V} (h : scal v v = true) (q : Q (V.bl true) kn n) : W c (rEq v v) kn n Q := r_eq h (by rw [decide_eq_true rfl]; exact q)
theorem r_neSelf {x : Str} (q : Q (V.bl false) kn n) : W c (rNe (.str x) (.str x)) kn n Q := r_ne rfl (by rw [decide_eq_true rfl]; exact q)
theorem r_eqSelf {x : Str} (q : Q (V.bl true) kn n) : W c (rEq (.str x) (.str x)) kn n Q := r_eq rfl (by rw [decide_eq_true rfl]; exact q)
theorem w_make {C : Addr} {t : TA} (hm : MonoX B) (hE : ErrOk c EA E) (h : W c (t σ) kn n fun vs kn1 n1 => ∀ x dx, kn1 x = none → kn1 dx = none → dx ≠ x →
    B (.ref x :: vs) (upd (upd kn1 dx (.own x)) x (.ins C dx [])) (fun v kn2 => v = .non ∧ Q (.ref x) kn2 n1) (fun cls d k => EA cls d k n1)) : W c (tMake C (liftX B) [] E t σ) kn n Q :=
  fun H g Q' q => h H g _ fun vs kn1 n1 H1 h1 g1 => fun x dx hx hdx hne => by
    have hx2 : upd H1 dx (.own x) x = none := by rw [upd_ne (Ne.symm hne)]; exact hx
    have z := sp_call (c := c) (n := n1) (Q := fun v kn2 n2 => v = .non ∧ Q (.ref x) kn2 n2) hm hE (h1 x dx (g1.free hx) (g1.free hdx) hne) _ ((g1.new hdx).new hx2) (fun v H2 => v = .non ∧ Q' (.ref x) H2)
      (fun v kn2 n2 H2 hq g2 => ⟨hq.1, q _ _ _ _ hq.2 g2⟩)
    have e : vs ++ [] = vs := List.append_nil vs
    rw [e]
    exact z
theorem w_meth {C : Addr} {m : Str} {ta : TE} {t : TA} (hm : MonoX B) (hE : ErrOk c EA E) (h : W c (ta σ) kn n fun x kn1 n1 => ∃ a dx fs, x = .ref a ∧ kn1 a = some (.ins C dx fs) ∧ fs.lookup m = none ∧
    W c (t σ) kn1 n1 fun vs kn2 n2 => B (.ref a :: vs) kn2 (fun v k => Q v k n2) (fun cls d k => EA cls d k n2)) : W c (tMeth C m (liftX B) [] E ta t σ) kn n Q :=
  fun H g Q' q => h H g _ fun x kn1 n1 H1 h1 g1 => by
    obtain ⟨a, dx, fs, rfl, ha, hl, h2⟩ := h1
    refine ⟨a, dx, fs, rfl, g1.ex _ _ ha, hl, h2 H1 g1 _ fun vs kn2 n2 H2 h3 g2 => ?_⟩
    have e : vs ++ [] = vs := List.append_nil vs
    rw [e]
    exact sp_call hm hE h3 H2 g2 Q' q
theorem r_own {op : Operator} {C a dx : Addr} {fs : List (Str × V)} {y : V} {t : Value} (hm : MonoX B) (hE : ErrOk c EA E) (ha : kn a = some (.ins C dx fs)) (ty : TyX K kn y t) (ot : OpT K op C t)
    (h : B [.ref a, y] kn (fun v k => Q v k n) (fun cls d k => EA cls d k n)) : W c (rOwn K op C (liftX B) E (.ref a) y) kn n Q :=
  fun H g Q' q => ⟨a, dx, fs, t, rfl, g.ex _ _ ha, tyx_ext g.ex ty, ot, sp_call hm hE h H g Q' q⟩
theorem r_eqO {C a dx : Addr} {fs : List (Str × V)} {y : V} {t : Value} {neg : Bool} (hm : MonoX B) (ha : kn a = some (.ins C dx fs)) (ty : TyX K kn y t) (nf : PySem.W.notFirst K C t = true)
    (h : B [.ref a, y] kn (fun v k => ∃ b, v = .bl b ∧ Q (.bl (if neg then !b else b)) k n) (fun _ _ _ => False)) : W c (rEqO K C (liftX B) neg (.ref a) y) kn n Q :=
  fun H g Q' q => ⟨a, dx, fs, t, rfl, g.ex _ _ ha, tyx_ext g.ex ty, nf, sp_call (EA := fun _ _ _ _ => False) (Q := fun v k n => ∃ b, v = .bl b ∧ Q (.bl (if neg then !b else b)) k n) hm err_no h H g _ fun v kn1 n1 H1 ⟨b, e, hq⟩ g1 => ⟨b, e, q _ _ _ _ hq g1⟩⟩
theorem r_lenO {C a dx : Addr} {fs : List (Str × V)} (hm : MonoX B) (ha : kn a = some (.ins C dx fs)) (h : B [.ref a] kn (fun v k => ∃ i : Int, v = .int i ∧ (0 ≤ i ∧ i < 2 ^ 63) ∧ Q (.int i) k n) (fun _ _ _ => False)) : W c (rLenO C (liftX B) [.ref a]) kn n Q :=
  fun H g Q' q => ⟨a, dx, fs, rfl, g.ex _ _ ha, sp_call (EA := fun _ _ _ _ => False) (Q := fun v k n => ∃ i : Int, v = .int i ∧ (0 ≤ i ∧ i < 2 ^ 63) ∧ Q (.int i) k n) hm err_no h H g _ fun v kn1 n1 H1 ⟨b, e, e2, hq⟩ g1 => ⟨b, e, e2, q _ _ _ _ hq g1⟩⟩
theorem r_strO {C a dx : Addr} {fs : List (Str × V)} (hm : MonoX B) (ha : kn a = some (.ins C dx fs)) (h : B [.ref a] kn (fun v k => ∃ x : Str, v = .str x ∧ Q (.str x) k n) (fun _ _ _ => False)) : W c (rStrO C (liftX B) [.ref a]) kn n Q :=
  fun H g Q' q => ⟨a, dx, fs, rfl, g.ex _ _ ha, sp_call (EA := fun _ _ _ _ => False) (Q := fun v k n => ∃ x : Str, v = .str x ∧ Q (.str x) k n) hm err_no h H g _ fun v kn1 n1 H1 ⟨b, e, hq⟩ g1 => ⟨b, e, q _ _ _ _ hq g1⟩⟩
theorem w_cval {ta : TE} {f : Str} (h : W c (ta σ) kn n fun x kn1 n1 => ∃ C mc v u, x = .ref C ∧ CRead K C mc ∧ CVal K C mc f v u ∧ Q v kn1 n1) : W c (tCVal K ta f σ) kn n Q :=
  fun H g Q' q => h H g _ fun x kn1 n1 H1 ⟨C, mc, v, u, e, r, cv, hq⟩ g1 => ⟨C, mc, v, u, e, r, cv, q _ _ _ _ hq g1⟩
theorem w_tupRg {ta tb : TE} (h : W c (ta σ) kn n fun x kn1 n1 => W c (tb σ) kn1 n1 fun y kn2 n2 => ∃ i j, x = .int i ∧ y = .int j ∧ RgOk i j ∧ ∀ q, kn2 q = none → Q (.ref q) (upd kn2 q (.tup (rgV i j))) n2) : W c (tTupRg (tRg2 ta tb) σ) kn n Q :=
  fun H g Q' q => h H g _ fun x kn1 n1 H1 h1 g1 => h1 H1 g1 _ fun y kn2 n2 H2 ⟨i, j, e1, e2, ok, h2⟩ g2 => ⟨i, j, e1, e2, ok, fun p hp => q _ _ _ _ (h2 p (g2.free hp)) (g2.new hp)⟩
theorem w_fmtI {te : TE} (h : W c (te σ) kn n fun x kn1 n1 => ∃ i : Int, x = .int i ∧ i.natAbs.log2 < 1920 ∧ Q (.str (toString i)) kn1 n1) : W c (tFmt te σ) kn n Q :=
  fun H g Q' q => h H g _ fun x kn1 n1 H1 ⟨i, e, hi, hq⟩ g1 => .inr ⟨i, e, hi, q _ _ _ _ hq g1⟩
theorem w_fmtS {te : TE} (h : W c (te σ) kn n fun x kn1 n1 => ∃ y : Str, x = .str y ∧ y.length ≤ sizeLine ∧ Q (.str y) kn1 n1) : W c (tFmt te σ) kn n Q :=
  fun H g Q' q => h H g _ fun x kn1 n1 H1 ⟨i, e, hi, hq⟩ g1 => .inl ⟨i, e, hi, q _ _ _ _ hq g1⟩
theorem w_js0 {acc : Str} {QS : Str → Hp → Nat → Prop} (q : QS acc kn n) : W c (tJs [] acc σ) kn n QS := fun H g _ k => k _ kn n H q g
theorem w_js {t : TE} {ts : List TE} {acc : Str} {QS : Str → Hp → Nat → Prop} (h : W c (t σ) kn n fun x kn1 n1 => ∃ y : Str, x = .str y ∧ (acc ++ y).length ≤ sizeLine ∧ W c (tJs ts (acc ++ y) σ) kn1 n1 QS) : W c (tJs (t :: ts) acc σ) kn n QS :=
  fun H g Q' q => h H g _ fun x kn1 n1 H1 ⟨y, e, hl, h2⟩ g1 => ⟨y, e, hl, h2 H1 g1 Q' q⟩
theorem w_joined {ts : List TE} (h : W c (tJs ts Str.empty σ) kn n fun out kn1 n1 => Q (.str out) kn1 n1) : W c (fun H Q' => tJs ts Str.empty σ H fun out H1 => Q' (.str out) H1) kn n Q :=
  fun H g Q' q => h H g _ fun out kn1 n1 H1 h1 g1 => q _ _ _ _ h1 g1
theorem r_repr {a : Addr} {d : PyData} (hd : Dp K kn (.ref a) d) (h1 : d.showable = true) (h2 : d.hasDict = false) (h3 : d.depth ≤ 64) (h4 : d.shown.length ≤ sizeLine) (q : Q (.str d.shown) kn n) : W c (rRepr K [.ref a]) kn n Q :=
  fun H g _ k => ⟨a, d, rfl, Dp.ext g.ex d _ hd, h1, h2, h3, h4, k _ kn n H q g⟩
theorem r_isK {a D dd : Addr} {fs : List (Str × V)} {cv : V} {u : Value} {b : Bool} (k : ClsV cv u) (ea : kn a = some (exh a (.ref D) (some dd))) (ed : kn dd = some (.xd fs)) (ex : ExcC K D) (e : PySem.W.kitOne K (.ref D) u = some b) (q : Q (.bl b) kn n) : W c (rIsK K [.ref a, cv]) kn n Q :=
  fun H g _ f => ⟨a, D, dd, fs, cv, u, b, rfl, k, g.ex _ _ ea, g.ex _ _ ed, ex, e, f _ kn n H q g⟩
theorem w_xk {te : TE} {f : Str} (h : W c (te σ) kn n fun x kn1 n1 => ∃ (a C dd : Addr) (fs : List (Str × V)) (v : V), x = .ref a ∧ kn1 a = some (exh a (.ref C) (some dd)) ∧ kn1 dd = some (.xd fs) ∧ XfC K C ∧ PySem.W.findIn K (.ref C) f = some none ∧ fs.lookup f = some v ∧ Q v kn1 n1) : W c (tXk K te f σ) kn n Q :=
  fun H g Q' q => h H g _ fun x kn1 n1 H1 ⟨a, C, dd, fs, v, e, ea, ed, xf, hn, hl, hq⟩ g1 => ⟨a, C, dd, fs, v, e, g1.ex _ _ ea, g1.ex _ _ ed, xf, hn, hl, q _ _ _ _ hq g1⟩
theorem w_dnew (h : ∀ q, kn q = none → Q (.ref q) (upd kn q (.dK [])) n) : W c (tDNewK σ) kn n Q := fun H g Q' q => fun p hp => q _ _ _ _ (h p (g.free hp)) (g.new hp)
theorem w_chain {r r' : R2} {ta tb tc : TE} (h : W c (ta σ) kn n fun x kn1 n1 => W c (tb σ) kn1 n1 fun y kn2 n2 => W c (r x y) kn2 n2 fun z kn3 n3 => ∃ k, z = .bl k ∧ (k = true → W c (tc σ) kn3 n3 fun w kn4 n4 => W c (r' y w) kn4 n4 Q) ∧ (k = false → Q (.bl false) kn3 n3)) : W c (tChain r r' ta tb tc σ) kn n Q :=
  fun H g Q' q => h H g _ fun x kn1 n1 H1 h1 g1 => h1 H1 g1 _ fun y kn2 n2 H2 h2 g2 => h2 H2 g2 _ fun z kn3 n3 H3 h3 g3 => by
    obtain ⟨k, e, a, b⟩ := h3
    refine ⟨k, e, ?_⟩
    cases k with
    | true => exact iteT (a rfl H3 g3 _ fun w kn4 n4 H4 h4 g4 => h4 H4 g4 Q' q)
    | false => exact iteF (q _ _ _ _ (b rfl) g3)
variable {D : AE}
theorem s_fld {ta tv : TE} {f : Str} (h : W c (tv σ) kn n fun y kn1 n1 => W c (ta σ) kn1 n1 fun x kn2 n2 => ∃ a C dx fs, x = .ref a ∧ kn2 a = some (.ins C dx fs) ∧ Cls K C ∧ NoAttr K C f ∧ fs.length < 1000 ∧ D.nx σ (upd kn2 a (.ins C dx (putF f y fs))) n2) : WS c (sFld K ta tv f) D σ kn n :=
  fun H g D' fit => h H g _ fun y kn1 n1 H1 h1 g1 => h1 H1 g1 _ fun x kn2 n2 H2 ⟨a, C, dx, fs, e, ha, cl, na, hl, hq⟩ g2 => ⟨a, C, dx, fs, e, g2.ex _ _ ha, cl, na, hl, fit.nx _ _ _ _ hq (g2.put ha rfl)⟩
theorem s_aug {i : Nat} {te : TE} {ti : TIp} {x : V} (hv : σ[i]? = some (some x)) (h : W c (te σ) kn n fun y kn1 n1 => W c (ti x y) kn1 n1 fun z kn2 n2 => D.nx (σ.set i (some z)) kn2 n2) : WS c (tAug i te ti) D σ kn n :=
  fun H g D' fit => ⟨x, hv, h H g _ fun y kn1 n1 H1 h1 g1 => h1 H1 g1 _ fun z kn2 n2 H2 h2 g2 => fit.nx _ _ _ _ h2 g2⟩
theorem room_u128 {k : Nat} {A : Around} (r : Room k A) : A.units + 128 < cLine := by have := r.un; omega
/-- an error class whose __init__ sets one field -/
def spX1 (K : PySem.W.Frag) (f : Str) : Sp := fun vs H Q _ => ∃ (a C : Addr) (y : V), vs = [.ref a, y] ∧ OexC K C ∧ PySem.W.findIn K (.ref C) f = some none ∧ H a = some (exo a C none) ∧
  ∀ dx, H dx = none → dx ≠ a → Q .non (upd (upd H dx (exd dx [(f, y)])) a (exo a C (some dx)))
theorem x1_end {H : Hp} {a d : Addr} {o1 o2 o3 o4 : HO} (ha : H a = none) (hd : d ≠ a) : upd (del (upd (upd (upd H a o1) d o2) a o3) a) d o4 = upd H d o4 := by
  funext x
  by_cases h1 : x = d
  · rw [h1, upd_same, upd_same]
  · rw [upd_ne h1, upd_ne h1]
    by_cases h2 : x = a
    · rw [h2, del_same, ha]
    · rw [del_ne h2, upd_ne h2, upd_ne h1, upd_ne h2]
theorem s_raise1 {C : Addr} {f : Str} {ta : TA} (oc : OexC K C) (hf : PySem.W.findIn K (.ref C) f = some none) (hE : ErrOk c EA E)
    (h : W c (ta σ) kn n fun vs kn1 n1 => ∃ y, vs = [y] ∧ ∀ d, kn1 d = none → EA (.ref C) (some d) (upd kn1 d (.xd [(f, y)])) n1) :
    WS c (fun _ σ H => tMkO C (spX1 K f) [] ta σ H fun cls d H' => E cls d H') D σ kn n :=
  fun H g D' fit => h H g _ fun vs kn1 n1 H1 ⟨y, e, h1⟩ g1 => by
    subst e
    refine ⟨Nat.le_add_left 1 999, fun a ha => ⟨a, C, y, rfl, oc, hf, upd_same, fun d hd hda => ⟨rfl, d, [(f, y)], upd_same, ?_, ?_, ?_⟩⟩⟩
    · rw [upd_ne hda, upd_same]
    · rw [upd_ne hda] at hd
      exact hd
    · rw [upd_ne hda] at hd
      rw [x1_end ha hda]
      exact hE _ _ _ _ _ (h1 d (g1.free hd)) (g1.new hd)
end
end AW

/-! x in o, x not in o: o of an own class with __contains__; truth of an own class by __bool__ or __len__ is not here. -/
namespace L2
open PySem PySem.Spec PyProof.Rows
section
variable {X : Cx} {CX : CXT} {k : Nat} {f C : Addr} {fd : FuncData} {ps : List Str} {sp : Sp}
def rInO (C : Addr) (sp : Sp) (neg : Bool) : R2 := fun x y H Q => ∃ a dx fs, y = .ref a ∧ H a = some (.ins C dx fs) ∧ sp [.ref a, x] H (fun v H' => ∃ b, v = .bl b ∧ Q (.bl (if neg then !b else b)) H') (fun _ _ _ => False)
theorem op_inO (M : SpM X.K C f "__contains__") (F : FnOk X.prog X.w X.K X.mg X.base CX k f fd ps sp) (hr : Room k X.A) (hb : Binds X.K fd ps []) (hx : Passes CX X (fun _ _ _ => False)) : OpR X (compareOp .In) (rInO C sp false) := by
  intro pins s σ H x y v u Q I rx ry h
  obtain ⟨a, dx, fs, rfl, ha, hq⟩ := h
  cases (show u = Value.ref a from ry)
  obtain ⟨_, J, _⟩ := ins_get I.hok ha
  obtain ⟨_, J, _⟩ := J.look
  obtain ⟨_, hF⟩ := I.fr
  refine PySem.W.in_K hF I.ok.mod.kin J M.hs M.hf (wpAny_mono (callA (vs := [.ref a, x]) F hr rfl hb hx I (.cons rfl (.cons rx .nil)) hq) (fun z s' hz => ?_) fun _ _ z => z)
  obtain ⟨v', H', I', rv, b, e, q⟩ := hz
  subst e
  cases (show z = Value.bool b from rv)
  exact wpAny_truthy_bool ⟨.bl b, H', I', rfl, q⟩
theorem op_notInO (M : SpM X.K C f "__contains__") (F : FnOk X.prog X.w X.K X.mg X.base CX k f fd ps sp) (hr : Room k X.A) (hb : Binds X.K fd ps []) (hx : Passes CX X (fun _ _ _ => False)) : OpR X (compareOp .NotIn) (rInO C sp true) := by
  intro pins s σ H x y v u Q I rx ry h
  obtain ⟨a, dx, fs, rfl, ha, hq⟩ := h
  cases (show u = Value.ref a from ry)
  obtain ⟨_, J, _⟩ := ins_get I.hok ha
  obtain ⟨_, J, _⟩ := J.look
  obtain ⟨_, hF⟩ := I.fr
  refine PySem.W.notIn_K hF I.ok.mod.kin J M.hs M.hf (wpAny_mono (callA (vs := [.ref a, x]) F hr rfl hb hx I (.cons rfl (.cons rx .nil)) hq) (fun z s' hz => ?_) fun _ _ z => z)
  obtain ⟨v', H', I', rv, b, e, q⟩ := hz
  subst e
  cases (show z = Value.bool b from rv)
  exact wpAny_truthy_bool ⟨.bl (!b), H', I', rfl, q⟩
end
end L2
namespace AW
open PySem PySem.Spec PyProof.Rows L2
section
variable {c : Cw} {kn : Hp} {n : Nat} {Q : V → Hp → Nat → Prop} {B : List V → Hp → AK → AXK → Prop}
theorem r_inO {C a dx : Addr} {fs : List (Str × V)} {x : V} {neg : Bool} (hm : MonoX B) (ha : kn a = some (.ins C dx fs)) (h : B [.ref a, x] kn (fun v k => ∃ b, v = .bl b ∧ Q (.bl (if neg then !b else b)) k n) (fun _ _ _ => False)) : W c (rInO C (liftX B) neg x (.ref a)) kn n Q :=
  fun H g Q' q => ⟨a, dx, fs, rfl, g.ex _ _ ha, sp_call (EA := fun _ _ _ _ => False) (Q := fun v k n => ∃ b, v = .bl b ∧ Q (.bl (if neg then !b else b)) k n) hm err_no h H g _ fun v kn1 n1 H1 ⟨b, e, hq⟩ g1 => ⟨b, e, q _ _ _ _ hq g1⟩⟩
end
end AW

namespace L2
open PySem PySem.Spec PyProof.Rows Builtin
theorem int_eq_inst (b : Int) (u : Tok) (x C dx : Addr) :
    Meets (Builtin.«int.__eq__» ⟨[.int b u, .ref x], []⟩) (fun _ R s => s.heap.get? x = some (PySem.W.instObj C dx) ∧ R (.ok (.ret .notImplemented)) s) :=
  .of_wp fun prog w A R s h => by
    obtain ⟨hp, g, d, tk, os⟩ := s
    obtain ⟨hl, h⟩ := h
    unfold PySem.W.instObj at hl
    wp_walk using wpAny_loadPart' hl, wpAny_load hl
    exact ⟨_, rfl, h⟩
theorem bool_eq_inst (b : Bool) (x C dx : Addr) :
    Meets (Builtin.«int.__eq__» ⟨[.bool b, .ref x], []⟩) (fun _ R s => s.heap.get? x = some (PySem.W.instObj C dx) ∧ R (.ok (.ret .notImplemented)) s) :=
  .of_wp fun prog w A R s h => by
    obtain ⟨hp, g, d, tk, os⟩ := s
    obtain ⟨hl, h⟩ := h
    unfold PySem.W.instObj at hl
    wp_walk using wpAny_loadPart' hl, wpAny_load hl
    exact ⟨_, rfl, h⟩
theorem str_eq_inst (b : Str) (u : Tok) (x C dx : Addr) :
    Meets (Builtin.«str.__eq__» ⟨[.str b u, .ref x], []⟩) (fun _ R s => s.heap.get? x = some (PySem.W.instObj C dx) ∧ R (.ok (.ret .notImplemented)) s) :=
  .of_wp fun prog w A R s h => by
    obtain ⟨hp, g, d, tk, os⟩ := s
    obtain ⟨hl, h⟩ := h
    unfold PySem.W.instObj at hl
    wp_walk using wpAny_loadPart' hl, wpAny_load hl
    exact ⟨_, rfl, h⟩
theorem tup_eq_inst (l x : Addr) :
    Meets (Builtin.«tuple.__eq__» ⟨[.ref l, .ref x], []⟩) (fun _ R s => (∀ (M : Model) (A : Around) (Q : Bool → Shared → Prop) (E : Value → Shared → Prop), Q false s → wpAny M A (isInstance (.ref x) (.type "tuple")) Q E s) ∧ R (.ok (.ret .notImplemented)) s) :=
  .of_wp fun prog w A R s h => by
    obtain ⟨hp, g, d, tk, os⟩ := s
    obtain ⟨hl, h⟩ := h
    wp_walk using hl _ _ _ _
    exact ⟨_, rfl, h⟩
theorem lst_eq_inst (l x : Addr) :
    Meets (Builtin.«list.__eq__» ⟨[.ref l, .ref x], []⟩) (fun _ R s => (∀ (M : Model) (A : Around) (Q : Bool → Shared → Prop) (E : Value → Shared → Prop), Q false s → wpAny M A (isInstance (.ref x) (.type "list")) Q E s) ∧ R (.ok (.ret .notImplemented)) s) :=
  .of_wp fun prog w A R s h => by
    obtain ⟨hp, g, d, tk, os⟩ := s
    obtain ⟨hl, h⟩ := h
    wp_walk using hl _ _ _ _
    exact ⟨_, rfl, h⟩
section
variable {prog : Program} {w : World} {A : Around} {E : Value → Shared → Prop} {s : Shared} {K : PySem.W.Frag} {x C f : Addr} {ox : Obj} {od : Option Obj} {b : Value} {T id : String} {Q : Value → Shared → Prop}
/-- b == x, b of a built-in type that declines, x's class has an own == -/
theorem eq_back (hu : A.units < cLine) (X : K.In s.heap) (I : PySem.W.InstAt s.heap x ox C od) (hT : s.TypeIs b T) (slot : Slot T "__eq__" id) (hs : PySem.W.findIn K (.ref C) "__eq__" = some (some (.ref f))) (hf : PySem.W.isFn K (.ref f) = true) (sub : PySem.W.subIn K (.ref C) (.type T) = some false)
    (dec : ∀ (P : Value → Shared → Prop) (E' : Value → Shared → Prop), P .notImplemented s → wpAny (model prog w) A (call (.builtin id) [b, .ref x]) P E' s)
    (h : wpAny (model prog w) A (call (.ref f) [.ref x, b]) (PySem.W.CmpBack Q) E s) : wpAny (model prog w) A (richCompare .Eq b (.ref x)) Q E s := by
  have ne : ((Value.type T) != (Value.ref C)) = true := rfl
  simp only [richCompare, cmpInfo_Eq, hT.oneThing_none]
  refine wpAny_holding (wpAny_bind (wpAny_cRoomFor hu ?_))
  refine wpAny_bind (wpAny_typeOf hT ?_)
  refine wpAny_bind (I.type.here ?_)
  rw [if_pos ne]
  refine wpAny_bind ((PySem.W.looks_subIn X sub).here ?_)
  simp only [Bool.false_eq_true, if_false, Bool.not_false, if_true]
  refine wpAny_bind (m := tryCompare b _ (.ref x)) (wpAny_tryCompare_declines hT slot (dec _ _ ⟨rfl, ?_⟩))
  refine wpAny_bind (m := tryCompare (.ref x) _ b) ?_
  unfold tryCompare
  refine wpAny_bind (PySem.W.ifBound_K X I hs hf (wpAny_mono h (fun v s' hv => ?_) fun _ _ e => e))
  cases v <;> first | exact hv.elim | exact wpAny_pure (wpAny_pure hv)
end
end L2

/-! x in a list, where == of an item may run a def of the text. -/
namespace L2
open PySem PySem.Spec PyProof.Rows PySem.SeqAt
abbrev lstOf (items : Array Value) (n : Nat) : Obj := { cls := .type "list", dict := none, data := .seq items n, slots := #[] }
/-- the turns that are left, the spot -/
def EqChain (prog : Program) (w : World) (A : Around) (l : Addr) (x : Value) : Nat → Nat → (Result → Shared → Prop) → Shared → Prop
  | 0, i, R, s => ∃ items n, s.heap.get? l = some (lstOf items n) ∧ items[i]? = none ∧ R (.ok (.ret (.bool false))) s
  | m + 1, i, R, s => ∃ items n y, s.heap.get? l = some (lstOf items n) ∧ items[i]? = some y ∧ wpAny (model prog w) A (eqBool y x) (fun b s' => (b = true → R (.ok (.ret (.bool true))) s') ∧ (b = false → EqChain prog w A l x m (i + 1) R s')) (fun e s' => R (.error e) s') s
theorem contains_chain {prog : Program} {w : World} {l : Addr} {x : Value} (m : Nat) :
    ∀ i : Nat, MeetsIn prog w (Builtin.«list.__contains__.loop» ⟨[.ref l, x, rawInt i], []⟩) (fun A R s => EqChain prog w A.in1 l x m i R s) := by
  induction m with
  | zero =>
    intro i A R s h
    obtain ⟨hp, g, d, tk, os⟩ := s
    obtain ⟨items, n, hl, hi, h⟩ := h
    wp_walk using wpAny_loadPart' hl
    have none_at : items[((i : Nat) : Int).toNat]? = none := by simpa using hi
    rw [none_at]
    wp_walk
    exact h
  | succ m ih =>
    intro i A R s h
    obtain ⟨hp, g, d, tk, os⟩ := s
    obtain ⟨items, n, y, hl, hi, h⟩ := h
    wp_walk using wpAny_loadPart' hl
    have some_at : items[((i : Nat) : Int).toNat]? = some y := by simpa using hi
    rw [some_at]
    refine wpAny_bind (wpAny_mono h (fun b s' hb => ?_) fun _ _ z => z)
    obtain ⟨ht, hf⟩ := hb
    cases b with
    | true =>
      wp_walk
      exact ht rfl
    | false =>
      have cast1 : ((i : Int) + 1) = ((i + 1 : Nat) : Int) := by push_cast; rfl
      wp_walk
      rw [cast1]
      refine ⟨plainId_quiet MeetsSeq.plain_contains_loop _, codeAny_builtin MeetsSeq.entry_contains_loop ?_⟩
      rw [Around.under_plainId MeetsSeq.plain_contains_loop _]
      exact ih (i + 1) A R s' (hf rfl)
theorem contains_list {prog : Program} {w : World} {l : Addr} {x : Value} (m : Nat) :
    MeetsIn prog w (Builtin.«list.__contains__» ⟨[.ref l, x], []⟩) (fun A R s => s.TypeIs (.ref l) "list" ∧ EqChain prog w A.in1 l x m 0 R s) := by
  intro A R s h
  obtain ⟨hp, g, d, tk, os⟩ := s
  obtain ⟨hl, h⟩ := h
  wp_walk
  refine ⟨plainId_quiet MeetsSeq.plain_contains_loop _, codeAny_builtin MeetsSeq.entry_contains_loop ?_⟩
  rw [Around.under_plainId MeetsSeq.plain_contains_loop _]
  exact contains_chain m 0 A R _ h
theorem in_chain {prog : Program} {w : World} {A : Around} {E : Value → Shared → Prop} {s : Shared} {l : Addr} {x : Value} {Q : Value → Shared → Prop} (m : Nat) (hl : s.TypeIs (.ref l) "list")
    (h : EqChain prog w A.in1 l x m 0 (wants (fun v s' => ∃ b, v = .bool b ∧ Q (.bool b) s') E) s) : wpAny (model prog w) A (compareOp .In x (.ref l)) Q E s := by
  show wpAny _ A (do return .bool (← contains (.ref l) x)) Q E s
  refine wpAny_bind (wpAny_contains_slot (T := "list") hl F.slot_list_contains (wpAny_mono (call_meetsIn F.slot_list_contains hl F.entry_list_contains (F.args_list_contains_2 _ _) (contains_list m) ⟨hl, h⟩) (fun v s' hv => ?_) fun _ _ e => e))
  obtain ⟨b, rfl, hq⟩ := hv
  exact wpAny_truthy_bool (wpAny_pure hq)
end L2

/-! o in a list of built-in values, o of an own class with an own ==. -/
namespace L2
open PySem PySem.Spec PyProof.Rows PySem.SeqAt
/-- a built-in value whose == leaves the answer to the class at C -/
inductive BackV (K : PySem.W.Frag) (H : Hp) (C : Addr) : V → Prop where
  | non (h : PySem.W.subIn K (.ref C) (.type "NoneType") = some false) : BackV K H C .non
  | bl (b : Bool) (h : PySem.W.subIn K (.ref C) (.type "bool") = some false) : BackV K H C (.bl b)
  | int (i : Int) (h : PySem.W.subIn K (.ref C) (.type "int") = some false) : BackV K H C (.int i)
  | str (x : Str) (h : PySem.W.subIn K (.ref C) (.type "str") = some false) : BackV K H C (.str x)
  | lst {l : Addr} {xs : List V} (e : H l = some (.lst xs)) (h : PySem.W.subIn K (.ref C) (.type "list") = some false) : BackV K H C (.ref l)
  | tup {l : Addr} {xs : List V} (e : H l = some (.tup xs)) (h : PySem.W.subIn K (.ref C) (.type "tuple") = some false) : BackV K H C (.ref l)
def InCh (K : PySem.W.Frag) (C a l : Addr) (vs : List V) (sp : Sp) : List V → Hp → VK → Prop
  | [], H, Q => Q (.bl false) H
  | v :: r, H, Q => BackV K H C v ∧ sp [.ref a, v] H (fun u H1 => ∃ b, u = .bl b ∧ H1 l = some (.lst vs) ∧ (∃ dx fs, H1 a = some (.ins C dx fs)) ∧ (b = true → Q (.bl true) H1) ∧ (b = false → InCh K C a l vs sp r H1 Q)) (fun _ _ _ => False)
def rInLO (K : PySem.W.Frag) (C : Addr) (sp : Sp) : R2 := fun x y H Q => ∃ a dx fs l vs, x = .ref a ∧ y = .ref l ∧ H a = some (.ins C dx fs) ∧ H l = some (.lst vs) ∧ InCh K C a l vs sp vs H Q
section
variable {X : Cx} {CX : CXT} {k : Nat} {f C a l : Addr} {fd : FuncData} {ps : List Str} {sp : Sp} {pins : List (Addr × Obj)} {σ : St} {H : Hp} {s : Shared} {v : V} {u : Value} {dx : Addr} {fs : List (Str × V)}
theorem eqBool_back {A : Around} {Q : Bool → Shared → Prop} {E : Value → Shared → Prop} (hu : A.units < cLine) (M : EqM X.K C f) (I : Inv X pins σ H s) (ha : H a = some (.ins C dx fs)) (b : BackV X.K H C v) (r : RelV v u)
    (h : wpAny (model X.prog X.w) A (call (.ref f) [.ref a, u]) (PySem.W.CmpBack fun z s' => wpAny (model X.prog X.w) A (truthOfDropped z) Q E s') E s) : wpAny (model X.prog X.w) A (eqBool u (.ref a)) Q E s := by
  obtain ⟨mA, J, _⟩ := ins_get I.hok ha
  obtain ⟨od, J, _⟩ := J.look
  have KI := I.kIn
  have isI : ∀ {T : String}, PySem.W.subIn X.K (.ref C) (.type T) = some false → ∀ (M : Model) (A : Around) (Q : Bool → Shared → Prop) (E : Value → Shared → Prop), Q false s → wpAny M A (isInstance (.ref a) (.type T)) Q E s := fun {T} h M' A' Q' E' q => (J.type.andThen (f := fun t => isSubtype t (.type T)) (PySem.W.looks_subIn KI h)).here q
  unfold eqBool
  refine wpAny_holding ?_
  cases b with
  | non hs =>
    cases (show u = Value.none from r)
    refine wpAny_ite_split (fun z => absurd (eq_of_beq z) nofun) (fun _ => ?_)
    refine wpAny_bind (eq_back hu KI J (T := "NoneType") rfl F.slot_NoneType_eq M.hs M.hf hs (fun P E' p => call_gives F.slot_NoneType_eq rfl F.entry_NoneType_eq (F.args_NoneType_eq_2 _ _) (NoneType___eq___none_ref_0 a) p) h)
  | bl y hs =>
    cases (show u = Value.bool y from r)
    refine wpAny_ite_split (fun z => absurd (eq_of_beq z) nofun) (fun _ => ?_)
    refine wpAny_bind (eq_back hu KI J (T := "bool") rfl F.slot_bool_eq M.hs M.hf hs (fun P E' p => call_meets F.slot_bool_eq rfl F.entry_int_eq (F.args_int_eq_2 _ _) (bool_eq_inst y a C dx) ⟨J.1, p⟩) h)
  | int y hs =>
    obtain ⟨t, rfl⟩ := (show ∃ t, u = Value.int y t from r)
    refine wpAny_ite_split (fun z => absurd (eq_of_beq z) nofun) (fun _ => ?_)
    refine wpAny_bind (eq_back hu KI J (T := "int") (typeIs_int _ _ _) F.slot_int_eq M.hs M.hf hs (fun P E' p => call_meets F.slot_int_eq (typeIs_int _ _ _) F.entry_int_eq (F.args_int_eq_2 _ _) (int_eq_inst y t a C dx) ⟨J.1, p⟩) h)
  | str y hs =>
    obtain ⟨t, rfl⟩ := (show ∃ t, u = Value.str y t from r)
    refine wpAny_ite_split (fun z => absurd (eq_of_beq z) nofun) (fun _ => ?_)
    refine wpAny_bind (eq_back hu KI J (T := "str") (typeIs_str _ _ _) F.slot_str_eq M.hs M.hf hs (fun P E' p => call_meets F.slot_str_eq (typeIs_str _ _ _) F.entry_str_eq (F.args_str_eq_2 _ _) (str_eq_inst y t a C dx) ⟨J.1, p⟩) h)
  | @lst l xs e hs =>
    cases (show u = Value.ref l from r)
    have ne : l ≠ a := fun z => by rw [z, ha] at e; cases e
    obtain ⟨_, its, n, _, _, e1⟩ := I.lstM e
    refine wpAny_ite_split (fun z => absurd (Value.ref.inj (eq_of_beq z)) ne) (fun _ => ?_)
    refine wpAny_bind (eq_back hu KI J (T := "list") ⟨_, e1, rfl⟩ F.slot_list_eq M.hs M.hf hs (fun P E' p => call_meets F.slot_list_eq ⟨_, e1, rfl⟩ F.entry_list_eq (F.args_list_eq_2 _ _) (lst_eq_inst l a) ⟨isI hs, p⟩) h)
  | @tup l xs e hs =>
    cases (show u = Value.ref l from r)
    have ne : l ≠ a := fun z => by rw [z, ha] at e; cases e
    obtain ⟨its, _, pl, _⟩ := I.tuple (.inl (.inl e))
    obtain ⟨o, ho, hc, _⟩ := pl
    refine wpAny_ite_split (fun z => absurd (Value.ref.inj (eq_of_beq z)) ne) (fun _ => ?_)
    refine wpAny_bind (eq_back hu KI J (T := "tuple") ⟨o, ho, hc⟩ F.slot_tuple_eq M.hs M.hf hs (fun P E' p => call_meets F.slot_tuple_eq ⟨o, ho, hc⟩ F.entry_tuple_eq (F.args_tuple_eq_2 _ _) (tup_eq_inst l a) ⟨isI hs, p⟩) h)
theorem in_walk {Q : VK} (hu : X.A.in1.units < cLine) (M : EqM X.K C f) (F : FnOk X.prog X.w X.K X.mg X.base CX k f fd ps sp) (hr : Room k X.A.in1) (hb : Binds X.K fd ps []) (hx : Passes CX X (fun _ _ _ => False)) {vs : List V} :
    ∀ (r done : List V) (H : Hp) (s : Shared), vs = done ++ r → Inv X pins σ H s → (∃ dx fs, H a = some (.ins C dx fs)) → H l = some (.lst vs) → InCh X.K C a l vs sp r H Q →
      EqChain X.prog X.w X.A.in1 l (.ref a) r.length done.length (wants (fun v s' => ∃ b, v = .bool b ∧ EP X pins σ Q (.bool b) s') X.xe) s := by
  intro r
  induction r with
  | nil =>
    intro done H s e I ha hl h
    obtain ⟨_, its, n, rv, hlen, e1⟩ := I.lstM hl
    refine ⟨its.toArray, n, e1, ?_, ⟨false, rfl, .bl false, H, I, rfl, h⟩⟩
    rw [List.getElem?_toArray, List.getElem?_eq_none]
    rw [← hlen, e, List.append_nil]
    exact Nat.le_refl _
  | cons v r ih =>
    intro done H s e I ha hl h
    obtain ⟨dx, fs, ha⟩ := ha
    obtain ⟨bv, hsp⟩ := h
    obtain ⟨_, its, n, rv, hlen, e1⟩ := I.lstM hl
    have at_v : vs[done.length]? = some v := by rw [e]; simp
    obtain ⟨u, hu1, ru⟩ := rv.get at_v
    refine ⟨its.toArray, n, u, e1, by rw [List.getElem?_toArray]; exact hu1, ?_⟩
    refine eqBool_back hu M I ha bv ru (wpAny_mono (callA (A := X.A.in1) (vs := [.ref a, v]) F hr rfl hb hx I (.cons rfl (.cons ru .nil)) hsp) (fun z s' hz => ?_) fun _ _ z => z)
    obtain ⟨v', H', I', rv', b, eb, hl', ha', ht, hf⟩ := hz
    subst eb
    cases (show z = Value.bool b from rv')
    show wpAny _ _ (truthOfDropped (.bool b)) _ _ _
    refine (show wpAny _ _ (truthy (.bool b)) _ _ _ from wpAny_truthy_bool ⟨fun hbt => ?_, fun hbf => ?_⟩)
    · exact ⟨true, rfl, .bl true, H', I', rfl, ht hbt⟩
    · have q := ih (done ++ [v]) H' s' (by rw [e]; simp) I' ha' hl' (hf hbf)
      rw [List.length_append] at q
      exact q
theorem op_inLO (M : EqM X.K C f) (F : FnOk X.prog X.w X.K X.mg X.base CX k f fd ps sp) (hr : Room (k + 1) X.A) (hb : Binds X.K fd ps []) (hx : Passes CX X (fun _ _ _ => False)) : OpR X (compareOp .In) (rInLO X.K C sp) := by
  intro pins s σ H x y v u Q I rx ry h
  obtain ⟨a, dx, fs, l, vs, rfl, rfl, ha, hl, h⟩ := h
  cases (show v = Value.ref a from rx)
  cases (show u = Value.ref l from ry)
  obtain ⟨_, its, n, _, _, e1⟩ := I.lstM hl
  exact in_chain vs.length ⟨_, e1, rfl⟩ (in_walk hr.in1.units0 M F hr.in1 hb hx vs [] H s rfl I ⟨dx, fs, ha⟩ hl h)
end
end L2
namespace AW
open PySem PySem.Spec PyProof.Rows L2
theorem backV_ext {K : PySem.W.Frag} {H H' : Hp} {C : Addr} {v : V} (e : Ext H H') (b : BackV K H C v) : BackV K H' C v := by
  cases b with
  | non h => exact .non h
  | bl b h => exact .bl b h
  | int i h => exact .int i h
  | str x h => exact .str x h
  | lst q h => exact .lst (e _ _ q) h
  | tup q h => exact .tup (e _ _ q) h
/-- none of the items is equal -/
theorem r_inL_no {K : PySem.W.Frag} {c : Cw} {kn : Hp} {n : Nat} {Q : V → Hp → Nat → Prop} {B : List V → Hp → AK → AXK → Prop} {C a l dx : Addr} {fs : List (Str × V)} {vs : List V} (hm : MonoX B) (ha : kn a = some (.ins C dx fs)) (hl : kn l = some (.lst vs))
    (hv : ∀ v ∈ vs, BackV K kn C v ∧ B [.ref a, v] kn (fun u k => u = .bl false ∧ k = kn) (fun _ _ _ => False)) (q : Q (.bl false) kn n) : W c (rInLO K C (liftX B) (.ref a) (.ref l)) kn n Q := by
  intro H g Q' k
  have walk : ∀ (r : List V), (∀ v ∈ r, v ∈ vs) → ∀ H, Good c kn n H → InCh K C a l vs (liftX B) r H Q' := by
    intro r
    induction r with
    | nil => exact fun _ H g => k _ _ _ _ q g
    | cons v r ih =>
      intro hr H g
      obtain ⟨b, h⟩ := hv v (hr v List.mem_cons_self)
      refine ⟨backV_ext g.ex b, kn, g.ex, g.nt, hm _ _ _ _ _ _ (fun u k' hu n' H' g' => ?_) (fun _ _ _ z => z.elim) h⟩
      obtain ⟨rfl, rfl⟩ := hu
      have g2 : Good c k' n H' := g.back g'
      exact ⟨false, rfl, g2.ex _ _ hl, ⟨dx, fs, g2.ex _ _ ha⟩, (fun z => nomatch z), fun _ => ih (fun w hw => hr w (List.mem_cons_of_mem _ hw)) H' g2⟩
  exact ⟨a, dx, fs, l, vs, rfl, rfl, g.ex _ _ ha, g.ex _ _ hl, walk vs (fun _ z => z) H g⟩
end AW

/-! An own operator whose right operand is of another own class; built-in == own; repr of any data; properties. -/
namespace OX
open PySem PySem.W PySem.Calls PyProof.Rows Builtin
section
variable {prog : Program} {w : World} {A : Around} {E : Value → Shared → Prop} {s : Shared} {K : Frag} {x C D f : Addr} {ox : Obj} {od : Option Obj} {b : Value}
theorem noNumber {M : Model} {h : Heap} {nm : String} {cd : ClassData} (X : K.In h) (hc : clsIn K D = some cd) (hm : cd.mro = [.ref D, .type "object"]) (h1 : findIn K (.ref D) (PySem.dunder nm) = some none) (h2 : findIn K (.ref D) (dunderR nm) = some none)
    (o1 : typeLookup (.type "object") (PySem.dunder nm) = pure none) (o2 : typeLookup (.type "object") (dunderR nm) = pure none) : Looks M h (fillsNumberSlot (.ref D) nm) false := by
  intro A Q E s k q
  unfold fillsNumberSlot
  dsimp only
  refine wpAny_bind ((looks_clsIn X hc).andThen (f := fun cd => pure cd.mro) .now A _ E s k ?_)
  rw [hm, List.anyM_cons]
  refine wpAny_bind ?_
  dsimp only
  rw [List.anyM_cons]
  refine wpAny_bind (wpAny_bind (looks_findIn X h1 A _ E s k ?_))
  dsimp only
  refine wpAny_pure ?_
  simp only [Bool.false_eq_true, if_false]
  rw [List.anyM_cons]
  refine wpAny_bind (wpAny_bind (looks_findIn X h2 A _ E s k ?_))
  dsimp only
  refine wpAny_pure ?_
  simp only [Bool.false_eq_true, if_false, List.anyM_nil]
  refine wpAny_pure ?_
  simp only [Bool.false_eq_true, if_false]
  rw [List.anyM_cons, o1, o2]
  refine wpAny_bind (wpAny_bind (wpAny_pure (wpAny_bind (wpAny_pure ?_))))
  refine wpAny_pure ?_
  simp only [Option.isSome_none, Bool.false_and, Bool.or_self, Bool.false_eq_true, if_false, List.anyM_nil]
  exact wpAny_pure q
theorem binop1_D {nm : String} {Q : Value → Shared → Prop} (X : K.In s.heap) (I : InstAt s.heap x ox C od) (hb : Looks (model prog w) s.heap (typeOf b) (.ref D)) (hc : selfFirst K C = true)
    (hs : findIn K (.ref C) (PySem.dunder nm) = some (some (.ref f))) (hf : isFn K (.ref f) = true) (fill : Looks (model prog w) s.heap (fillsNumberSlot (.ref D) nm) false)
    (h : wpAny (model prog w) A (call (.ref f) [.ref x, b]) (PySem.W.CmpBack Q) E s) : wpAny (model prog w) A (binaryOp1 nm (.ref x) b) (fun r s' => ∃ v, r = some v ∧ Q v s') E s := by
  obtain ⟨cd, hcd, hm⟩ := any_some hc
  obtain ⟨rest, hm⟩ : ∃ rest, cd.mro = .ref C :: rest := by
    cases q : cd.mro with
    | nil => rw [q] at hm; cases hm
    | cons a r => rw [q] at hm; exact ⟨r, by rw [List.head?_cons] at hm; cases (beq_iff_eq.mp hm); rfl⟩
  have last : ∀ {α : Type} (k : Option Value → Sem α) (P : α → Shared → Prop), (∀ v s', PySem.W.CmpBack Q v s' → wpAny (model prog w) A (k (some v)) P E s') → wpAny (model prog w) A (tryMethod (.ref x) (PySem.dunder nm) b >>= k) P E s := fun k P hk => by
    refine wpAny_bind ?_
    unfold tryMethod
    refine wpAny_bind (special_fn X I hs (beq_iff_eq.mp hf) (wpAny_mono h (fun v s' hv => ?_) fun _ _ e => e))
    cases v <;> first | exact hv.elim | exact wpAny_pure (hk _ _ hv)
  unfold binaryOp1
  refine wpAny_bind (I.type.here (wpAny_bind (hb.here (wpAny_bind ((fills_K X hcd hm hs).here ?_)))))
  cases q : (Value.ref C == Value.ref D) with
  | true =>
    simp only [if_true]
    refine wpAny_bind (wpAny_pure ?_)
    simp only [Bool.and_false, Bool.false_eq_true, if_false, Bool.false_and]
    refine wpAny_bind (wpAny_pure ?_)
    simp only [Bool.false_eq_true, if_false]
    refine last _ _ fun v s' hv => ?_
    cases v <;> first | exact hv.elim | exact wpAny_pure ⟨_, rfl, hv⟩
  | false =>
    simp only [Bool.false_eq_true, if_false]
    refine wpAny_bind (fill.here ?_)
    simp only [Bool.and_false, Bool.false_eq_true, if_false, Bool.false_and]
    refine wpAny_bind (wpAny_pure ?_)
    simp only [Bool.false_eq_true, if_false, if_true]
    refine last _ _ fun v s' hv => ?_
    cases v <;> first | exact hv.elim | exact wpAny_pure ⟨_, rfl, hv⟩
end
end OX
namespace L2
open PySem PySem.Spec PyProof.Rows PySem.SeqAt
/-- the class at D has nothing to say in an operator -/
structure NoNum (K : PySem.W.Frag) (op : Operator) (D : Addr) : Prop where
  cd : ∃ cd, PySem.W.clsIn K D = some cd ∧ cd.mro = [.ref D, .type "object"]
  h1 : PySem.W.findIn K (.ref D) (PySem.dunder op.info.2) = some none
  h2 : PySem.W.findIn K (.ref D) (dunderR op.info.2) = some none
  o1 : typeLookup (.type "object") (PySem.dunder op.info.2) = pure none
  o2 : typeLookup (.type "object") (dunderR op.info.2) = pure none
def rOwnD (K : PySem.W.Frag) (op : Operator) (C D : Addr) (sp : Sp) (E : XK) : R2 := fun x y H Q => ∃ a dx fs b dy gs, x = .ref a ∧ y = .ref b ∧ H a = some (.ins C dx fs) ∧ H b = some (.ins D dy gs) ∧ sp [.ref a, .ref b] H Q E
section
variable {X : Cx} {CX : CXT} {k : Nat} {f C D : Addr} {fd : FuncData} {ps : List Str} {sp : Sp} {E : XK}
theorem op_ownD {op : Operator} (M : OpM X.K op C f) (N : NoNum X.K op D) (O : OwnC X.K D) (F : FnOk X.prog X.w X.K X.mg X.base CX k f fd ps sp) (hr : Room k X.A) (hb : Binds X.K fd ps []) (hx : Passes CX X E) : OpR X (binaryOp op) (rOwnD X.K op C D sp E) := by
  intro pins s σ H x y v u Q I rx ry h
  obtain ⟨a, dx, fs, b, dy, gs, rfl, rfl, ha, hb', hq⟩ := h
  cases rx
  have ry' := ry
  cases ry'
  obtain ⟨mA, J, _⟩ := ins_get I.hok ha
  obtain ⟨od, J, _⟩ := J.look
  have hbt := typeOf_of I ry (O.ty hb')
  obtain ⟨cd, c1, c2⟩ := N.cd
  have hc : wpAny (model X.prog X.w) X.A (call (.ref f) [.ref a, .ref b]) (PySem.W.CmpBack (EP X pins σ Q)) X.xe s :=
    wpAny_mono (callA (vs := [.ref a, .ref b]) F hr rfl hb hx I (.cons rfl (.cons ry .nil)) hq) (fun z s' hz => by
      obtain ⟨v', H', I', rv, q⟩ := id hz
      exact relV_ni rv hz) fun _ _ z => z
  exact OX.binop_of (OX.binop1_D I.kIn J hbt M.self M.hs M.hf (OX.noNumber I.kIn c1 c2 N.h1 N.h2 N.o1 N.o2) hc)
/-- x == o or o == x, o of an own class with an own ==, x of a built-in type -/
def rEqU (K : PySem.W.Frag) (C : Addr) (sp : Sp) : R2 := fun x y H Q => rEqO K C sp false x y H Q ∨ ∃ a dx fs, y = .ref a ∧ H a = some (.ins C dx fs) ∧ BackV K H C x ∧ sp [.ref a, x] H (fun v H' => ∃ b, v = .bl b ∧ Q (.bl b) H') (fun _ _ _ => False)
theorem op_eqU (M : EqM X.K C f) (F : FnOk X.prog X.w X.K X.mg X.base CX k f fd ps sp) (hr : Room (k + 1) X.A) (hb : Binds X.K fd ps []) (hx : Passes CX X (fun _ _ _ => False)) : OpR X (compareOp .Eq) (rEqU X.K C sp) := by
  intro pins s σ H x y v u Q I rx ry h
  rcases h with h | ⟨a, dx, fs, rfl, ha, bv, hq⟩
  · exact op_eqO M F hr hb hx pins s σ H x y v u Q I rx ry h
  cases (show u = Value.ref a from ry)
  obtain ⟨mA, J, _⟩ := ins_get I.hok ha
  obtain ⟨od, J, _⟩ := J.look
  have KI := I.kIn
  have hu : X.A.units < cLine := hr.units0
  have isI : ∀ {T : String}, PySem.W.subIn X.K (.ref C) (.type T) = some false → ∀ (M : Model) (A : Around) (Q : Bool → Shared → Prop) (E : Value → Shared → Prop), Q false s → wpAny M A (isInstance (.ref a) (.type T)) Q E s := fun {T} h M' A' Q' E' q => (J.type.andThen (f := fun t => isSubtype t (.type T)) (PySem.W.looks_subIn KI h)).here q
  have h : wpAny (model X.prog X.w) X.A (call (.ref f) [.ref a, v]) (PySem.W.CmpBack (EP X pins σ Q)) X.xe s :=
    wpAny_mono (callA (vs := [.ref a, x]) F (hr.mono (Nat.le_succ _)) rfl hb hx I (.cons rfl (.cons rx .nil)) hq) (fun z s' hz => by
      obtain ⟨v', H', I', rv, b, e, q⟩ := hz
      subst e
      cases (show z = Value.bool b from rv)
      exact ⟨.bl b, H', I', rfl, q⟩) fun _ _ z => z
  show wpAny (model X.prog X.w) X.A (richCompare .Eq v (.ref a)) (EP X pins σ Q) X.xe s
  cases bv with
  | non hs =>
    cases (show v = Value.none from rx)
    exact eq_back hu KI J (T := "NoneType") rfl PySem.F.slot_NoneType_eq M.hs M.hf hs (fun P E' p => call_gives PySem.F.slot_NoneType_eq rfl PySem.F.entry_NoneType_eq (PySem.F.args_NoneType_eq_2 _ _) (NoneType___eq___none_ref_0 a) p) h
  | bl y hs =>
    cases (show v = Value.bool y from rx)
    exact eq_back hu KI J (T := "bool") rfl PySem.F.slot_bool_eq M.hs M.hf hs (fun P E' p => call_meets PySem.F.slot_bool_eq rfl PySem.F.entry_int_eq (PySem.F.args_int_eq_2 _ _) (bool_eq_inst y a C dx) ⟨J.1, p⟩) h
  | int y hs =>
    obtain ⟨t, rfl⟩ := (show ∃ t, v = Value.int y t from rx)
    exact eq_back hu KI J (T := "int") (typeIs_int _ _ _) PySem.F.slot_int_eq M.hs M.hf hs (fun P E' p => call_meets PySem.F.slot_int_eq (typeIs_int _ _ _) PySem.F.entry_int_eq (PySem.F.args_int_eq_2 _ _) (int_eq_inst y t a C dx) ⟨J.1, p⟩) h
  | str y hs =>
    obtain ⟨t, rfl⟩ := (show ∃ t, v = Value.str y t from rx)
    exact eq_back hu KI J (T := "str") (typeIs_str _ _ _) PySem.F.slot_str_eq M.hs M.hf hs (fun P E' p => call_meets PySem.F.slot_str_eq (typeIs_str _ _ _) PySem.F.entry_str_eq (PySem.F.args_str_eq_2 _ _) (str_eq_inst y t a C dx) ⟨J.1, p⟩) h
  | @lst l xs e hs =>
    cases (show v = Value.ref l from rx)
    obtain ⟨_, its, n, _, _, e1⟩ := I.lstM e
    exact eq_back hu KI J (T := "list") ⟨_, e1, rfl⟩ PySem.F.slot_list_eq M.hs M.hf hs (fun P E' p => call_meets PySem.F.slot_list_eq ⟨_, e1, rfl⟩ PySem.F.entry_list_eq (PySem.F.args_list_eq_2 _ _) (lst_eq_inst l a) ⟨isI hs, p⟩) h
  | @tup l xs e hs =>
    cases (show v = Value.ref l from rx)
    obtain ⟨its, _, pl, _⟩ := I.tuple (.inl (.inl e))
    obtain ⟨o, ho, hc, _⟩ := pl
    exact eq_back hu KI J (T := "tuple") ⟨o, ho, hc⟩ PySem.F.slot_tuple_eq M.hs M.hf hs (fun P E' p => call_meets PySem.F.slot_tuple_eq ⟨o, ho, hc⟩ PySem.F.entry_tuple_eq (PySem.F.args_tuple_eq_2 _ _) (tup_eq_inst l a) ⟨isI hs, p⟩) h
/-- repr of a bool -/
def rReprB : List V → Hp → VK → Prop := fun xs H Q => ∃ b : Bool, xs = [.bl b] ∧ Q (.str (if b then "True" else "False")) H
theorem c_reprB : CallR X (.builtin "repr") rReprB := by
  intro pins s σ H xs us Q I r h
  obtain ⟨b, rfl, q⟩ := h
  obtain ⟨u, rfl, rx⟩ := vals1 r
  cases (show u = Value.bool b from rx)
  exact PySem.P.repr_of_bool ⟨.str (if b then "True" else "False"), H, I.tok _, ⟨_, rfl⟩, q⟩
def rNotN : R2 := fun x y H Q => y = V.non ∧ Q (V.bl (!decide (x = V.non))) H
theorem c_notN : OpR X (compareOp .IsNot) rNotN := op_notN
def rMax2 : List V → Hp → VK → Prop := fun xs H Q => ∃ i j : Int, xs = [.int i, .int j] ∧ Q (.int (if j > i then j else i)) H
theorem c_max2 (hc : X.calm = true) : CallR X (.builtin "max") rMax2 := call_max2 hc
def rMin2 : List V → Hp → VK → Prop := fun xs H Q => ∃ i j : Int, xs = [.int i, .int j] ∧ Q (.int (if j < i then j else i)) H
theorem c_min2 (hc : X.calm = true) : CallR X (.builtin "min") rMin2 := call_min2 hc
end
end L2
namespace AW
open PySem PySem.Spec PyProof.Rows L2
section
variable {c : Cw} {kn : Hp} {n : Nat} {σ : L2.St} {Q : V → Hp → Nat → Prop} {K : PySem.W.Frag} {E : XK} {EA : EAK} {B : List V → Hp → AK → AXK → Prop} {C D : Addr}
theorem r_ownD {op : Operator} {a b dx dy : Addr} {fs gs : List (Str × V)} (hm : MonoX B) (hE : ErrOk c EA E) (ha : kn a = some (.ins C dx fs)) (hb : kn b = some (.ins D dy gs))
    (h : B [.ref a, .ref b] kn (fun v k => Q v k n) (fun cls d k => EA cls d k n)) : W c (rOwnD K op C D (liftX B) E (.ref a) (.ref b)) kn n Q :=
  fun H g Q' q => ⟨a, dx, fs, b, dy, gs, rfl, rfl, g.ex _ _ ha, g.ex _ _ hb, sp_call hm hE h H g Q' q⟩
theorem r_eqUo {x y : V} (h : W c (rEqO K C (liftX B) false x y) kn n Q) : W c (rEqU K C (liftX B) x y) kn n Q := fun H g Q' q => .inl (h H g Q' q)
theorem r_eqUb {a dx : Addr} {fs : List (Str × V)} {x : V} (hm : MonoX B) (ha : kn a = some (.ins C dx fs)) (bv : BackV K kn C x)
    (h : B [.ref a, x] kn (fun v k => ∃ b, v = .bl b ∧ Q (.bl b) k n) (fun _ _ _ => False)) : W c (rEqU K C (liftX B) x (.ref a)) kn n Q :=
  fun H g Q' q => .inr ⟨a, dx, fs, rfl, g.ex _ _ ha, backV_ext g.ex bv, sp_call (EA := fun _ _ _ _ => False) (Q := fun v k n => ∃ b, v = .bl b ∧ Q (.bl b) k n) hm err_no h H g _ fun v kn1 n1 H1 ⟨b, e, hq⟩ g1 => ⟨b, e, q _ _ _ _ hq g1⟩⟩
theorem r_reprB {b : Bool} (q : Q (.str (if b then "True" else "False")) kn n) : W c (rReprB [.bl b]) kn n Q := fun H g _ k => ⟨b, rfl, k _ kn n H q g⟩
theorem r_notN {x : V} (q : Q (.bl (!decide (x = V.non))) kn n) : W c (rNotN x .non) kn n Q := fun H g _ k => ⟨rfl, k _ kn n H q g⟩
theorem r_max2 {i j : Int} (q : Q (.int (if j > i then j else i)) kn n) : W c (rMax2 [.int i, .int j]) kn n Q := fun H g _ k => ⟨i, j, rfl, k _ kn n H q g⟩
theorem r_min2 {i j : Int} (q : Q (.int (if j < i then j else i)) kn n) : W c (rMin2 [.int i, .int j]) kn n Q := fun H g _ k => ⟨i, j, rfl, k _ kn n H q g⟩
theorem w_prop {ta : TE} (hm : MonoX B) (h : W c (ta σ) kn n fun x kn1 n1 => ∃ a dx fs, x = .ref a ∧ kn1 a = some (.ins C dx fs) ∧ B [.ref a] kn1 (fun v k => Q v k n1) (fun _ _ _ => False)) : W c (tProp C (liftX B) [] E ta σ) kn n Q :=
  fun H g Q' q => h H g _ fun x kn1 n1 H1 ⟨a, dx, fs, e, ha, hb⟩ g1 => ⟨a, dx, fs, e, g1.ex _ _ ha, sp_call (EA := fun _ _ _ _ => False) hm err_no hb H1 g1 Q' q⟩
end
end AW

/-! iter(t) of a tuple; list(o), o of an own class whose __iter__ gives that, with a __len__ of its own. -/
namespace L2
open PySem PySem.Spec PyProof.Rows
def TitO (t it : Addr) : HO := .ext fun h => h.IsTupleIter it t 0
theorem titO_ok {P : Program} {w : World} {H : Hp} {h : Heap} {t it : Addr} (e : h.IsTupleIter it t 0) : ObjOk P w H h it (TitO t it) := ⟨e, (let ⟨o, ho, _⟩ := e; ⟨o, ho⟩), fun h1 h2 q k => let ⟨o, ho, r⟩ := q; ⟨o, k _ ho, r⟩⟩
def rIterT (K : PySem.W.Frag) : List V → Hp → VK → Prop := fun xs H Q => ∃ (t : Addr) (zs : List V), xs = [.ref t] ∧ SqT K H t zs ∧ ∀ it, H it = none → Q (.ref it) (upd H it (TitO t it))
section
variable {X : Cx}
theorem c_iterT : CallR X (.builtin "iter") (rIterT X.K) := by
  intro pins s σ H xs us Q I r h
  obtain ⟨t, zs, rfl, hq, q⟩ := h
  obtain ⟨u, rfl, rx⟩ := vals1 r
  cases (show u = Value.ref t from rx)
  obtain ⟨its, rv, pl, hz⟩ := I.tuple hq
  refine Calls.call_function_entry (by decide +kernel) (by decide +kernel) PySem.W.kdk_entry_iter (PySem.W.kdk_args_iter _) ?_
  unfold Builtin.«iter»
  refine wpAny_bind (m := someArgs "iter" 1 2 _) (wpAny_of_eq (a := [Value.ref t]) (by first | rfl | kernel_rfl!) ?_)
  show wpAny _ _ (pyIter (.ref t) >>= _) _ _ _
  refine wpAny_bind (wpAny_pyIter_tuple pl ?_)
  refine wpAny_pure ⟨_, rfl, ?_⟩
  exact ⟨.ref s.heap.objs.size, _, I.laid (t' := s.toks) (fun b u e => Heap.get?_push_of_some _ e) (Nat.le_refl _) (titO_ok ⟨_, Heap.get?_push_size _ rfl, rfl, rfl⟩), rfl, q _ (I.hok.fresh (Nat.le_refl _))⟩
/-- the promise of such an __iter__ -/
def spIterT (C : Addr) (f : Str) : Sp := fun vs H Q _ => ∃ a dx fs t zs, vs = [.ref a] ∧ H a = some (.ins C dx fs) ∧ fs.lookup f = some (.ref t) ∧ H t = some (.tup zs) ∧ ∀ it, H it = none → Q (.ref it) (upd H it (TitO t it))
variable {kI kL n : Nat} {C fI fL S a t : Addr} {fdI fdL : FuncData} {psI psL : List Str} {spL : Sp} {f : Str} {A1 : Around} {pins : List (Addr × Obj)} {σ : St} {HA : Hp} {sA : Shared} {dx : Addr} {fs : List (Str × V)} {zs : List V} {Rs : Result → Shared → Prop}
/-- what the own __len__ answers, wherever more is known -/
def TellsLen (spL : Sp) (a : Addr) (H : Hp) (n : Nat) : Prop := ∀ H', (∀ b o, H b = some o → H' b = some o) → spL [.ref a] H' (fun v H2 => v = .int (n : Int) ∧ ∀ b o, H' b = some o → H2 b = some o) (fun _ _ _ => False)
theorem lot_hint {Q : Bool → Shared → Prop} {E : Value → Shared → Prop} {H : Hp} {s : Shared} (ML : SpM X.K C fL "__len__") (FL : FnOk X.prog X.w X.K X.mg X.base CX0 kL fL fdL psL spL) (bL : Binds X.K fdL psL []) (hr : Room (kL + 1) A1) (hfr : A1.frames = X.A.frames)
    (I : Inv X pins σ H s) (ha : H a = some (.ins C dx fs)) (hz : n ≤ 1000) (hL : TellsLen spL a H n)
    (q : ∀ k s' H', Inv X pins σ H' s' → Un (frs X.stack) [] H H' s.heap s'.heap → s'.os = s.os → (∀ b o, H b = some o → H' b = some o) → Q k s') : wpAny (model X.prog X.w) A1 (Builtin.List.listLengthHint (.ref a)) Q E s := by
  obtain ⟨mA, J, _⟩ := ins_get I.hok ha
  obtain ⟨od, J, _⟩ := J.look
  obtain ⟨m0, hF⟩ := I.fr
  unfold Builtin.List.listLengthHint
  refine wpAny_bind (wpAny_bind (J.type.here ((PySem.W.looks_findIn I.kIn ML.hs).here ?_)))
  refine PySem.W.KFB.if_not rfl ?_
  dsimp only
  refine wpAny_ite_split (fun _ => ?_) (fun z => absurd rfl z)
  refine wpAny_bind (wpAny_rule ?_)
  have e0 : Env0 X.prog X.w X.K X.mg X.base A1.in1 X.stack s H := by
    have e := I.env0
    exact ⟨hfr.trans e.frames, e.mod, e.bs, e.bsz, e.funs, e.frf, e.hok, e.bare⟩
  have r2 : Vals [V.ref a] [Value.ref a] := .cons rfl .nil
  have hsp := hL H fun _ _ z => z
  have hlen := FL.len _ _ _ _ hsp
  refine wpAny_bind (wpAny_attempt (PySem.W.len_K hF I.ok.mod.kin J ML.hs ML.hf (wpAny_call (codeAny_mono (FL.run A1.in1 X.stack s H ⟨[.ref a], []⟩ [.ref a] [.ref a] _ _ hr.in1 e0 (by
    have := bL s [.ref a] I.kIn (by simpa using hlen)
    simpa using this) r2 hsp) fun r s1 hq1 => ?_))))
  cases r with
  | error e => exact hq1.elim
  | ok fl =>
    cases fl with
    | next => exact False.elim hq1
    | brk => exact False.elim hq1
    | cont => exact False.elim hq1
    | ret u =>
      obtain ⟨v, H1, os1, bare1, un1, hok1, rv, ev, ex1⟩ := (show CE _ _ _ _ _ _ _ _ from hq1)
      subst ev
      obtain ⟨tk, rfl⟩ := (show ∃ tk, u = Value.int (n : Int) tk from rv)
      obtain ⟨h1, g1, d1, t1, o1⟩ := s1
      cases (show o1 = s.os from os1)
      have I1 : Inv X pins σ H1 _ := I.call (h' := h1) (g' := g1) (d' := d1) (t' := t1 + 1) (ch := []) un1 hok1 bare1 (fun b z => absurd z (by simp))
      refine ⟨⟨Int.natCast_nonneg _, by omega⟩, ?_⟩
      refine wpAny_bind (m := asInt? (.int (n : Int) _)) (wpAny_pure ?_)
      dsimp only
      have small : Builtin.List.listTooLong ((n : Int)).toNat = false := by
        rw [Int.toNat_natCast]
        unfold Builtin.List.listTooLong
        exact decide_eq_false (by rw [sizeLine_eq]; omega)
      refine PySem.W.KFB.if_not small ?_
      exact wpAny_pure (q _ _ H1 I1 un1 rfl ex1)
theorem items_same {its : List Value} {acc : Array Value} (h : ItemsOf (fun i v => its.toArray[i]? = some v) acc its.toArray.size) : acc.toList = its := by
  refine List.ext_getElem? fun j => ?_
  have h1 : acc.size = its.length := h.1.trans List.size_toArray
  cases e : acc[j]? with
  | some u =>
    have q : its.toArray[j]? = some u := h.2 j u e
    rw [List.getElem?_toArray] at q
    rw [Array.getElem?_toList, e, q]
  | none =>
    have l : acc.size ≤ j := Array.getElem?_eq_none_iff.mp e
    rw [Array.getElem?_toList, e, List.getElem?_eq_none (by omega)]
theorem lot_extend (MI : SpM X.K C fI "__iter__") (FI : FnOk X.prog X.w X.K X.mg X.base CX0 kI fI fdI psI (spIterT C f)) (bI : Binds X.K fdI psI []) (ML : SpM X.K C fL "__len__") (FL : FnOk X.prog X.w X.K X.mg X.base CX0 kL fL fdL psL spL) (bL : Binds X.K fdL psL [])
    (rI : Room kI A1.in1) (rL : Room (kL + 1) A1.in1) (hfr : A1.in1.frames = X.A.frames) (IA : Inv X pins σ HA sA) (ha : HA a = some (.ins C dx fs)) (hl : fs.lookup f = some (.ref t)) (ht : HA t = some (.tup zs)) (hz : zs.length ≤ 1000)
    (hL : TellsLen spL a HA zs.length) (hS : HA S = some (.lst [])) (hdone : ∀ s5 H5, Inv X pins σ H5 s5 → (∀ b o, b ≠ S → HA b = some o → H5 b = some o) → H5 S = some (.lst zs) → Rs (.ok (.ret .none)) s5) :
    wpAny (model X.prog X.w) A1.in1 (Builtin.List.listExtendWith (.ref S) (.ref a) .none)
      (fun fin s' => match fin with | .done g => Rs (.ok g) s' | .again cd => cd.quiet = true ∧ codeAny (model X.prog X.w) A1 cd Rs s') (fun e s' => Rs (.error e) s') sA := by
  have neq : S ≠ a := fun z => by rw [z, ha] at hS; cases hS
  obtain ⟨mA, J, _⟩ := ins_get IA.hok ha
  obtain ⟨od, J, _⟩ := J.look
  obtain ⟨m0, hF⟩ := IA.fr
  unfold Builtin.List.listExtendWith
  refine wpAny_bind (J.type.here ?_)
  have z1 : Builtin.List.listSameRef (.ref S) (.ref a) = false := by simp [Builtin.List.listSameRef, neq]
  have z2 : ((Value.ref C) == (Value.type "list")) = false := rfl
  have z3 : ((Value.ref C) == (Value.type "tuple")) = false := rfl
  simp only [z1, z2, z3, Bool.or_false, Bool.false_eq_true, if_false]
  refine wpAny_bind (PySem.W.owit_iter hF IA.ok.mod.kin J MI.hs MI.hf ?_)
  have e0 : Env0 X.prog X.w X.K X.mg X.base A1.in1 X.stack sA HA := by
    have e := IA.env0
    exact ⟨hfr.trans e.frames, e.mod, e.bs, e.bsz, e.funs, e.frf, e.hok, e.bare⟩
  have rv0 : Vals [V.ref a] [Value.ref a] := .cons rfl .nil
  have hsp : spIterT C f [.ref a] HA (fun v H' => ∃ it, HA it = none ∧ v = .ref it ∧ H' = upd HA it (TitO t it)) (fun _ _ _ => False) := ⟨a, dx, fs, t, zs, rfl, ha, hl, ht, fun it hi => ⟨it, hi, rfl, rfl⟩⟩
  have hlen := FI.len _ _ _ _ hsp
  refine wpAny_call (codeAny_mono (FI.run A1.in1 X.stack sA HA ⟨[.ref a], []⟩ [.ref a] [.ref a] _ _ rI e0 (by
    have z := bI sA [.ref a] IA.kIn (by simpa using hlen)
    simpa using z) rv0 hsp) fun r s1 hr1 => ?_)
  cases r with
  | error e => exact hr1.elim
  | ok fl =>
    cases fl with
    | next => exact False.elim hr1
    | brk => exact False.elim hr1
    | cont => exact False.elim hr1
    | ret u =>
      obtain ⟨v, H1, os1, bare1, un1, hok1, rv, it, hit, ev, eH⟩ := (show CE _ _ _ _ _ _ _ _ from hr1)
      subst ev
      subst eH
      cases (show u = Value.ref it from rv)
      obtain ⟨h1, g1, d1, t1, o1⟩ := s1
      cases (show o1 = sA.os from os1)
      have I1 : Inv X pins σ (upd HA it (TitO t it)) _ := IA.call (h' := h1) (g' := g1) (d' := d1) (t' := t1) (ch := []) un1 hok1 bare1 (fun b z => absurd z (by simp))
      have ex1 : ∀ b o, HA b = some o → upd HA it (TitO t it) b = some o := fun b o e => by rw [upd_ne (ne_of_none e hit)]; exact e
      have ti1 : h1.IsTupleIter it t 0 := (hok1 it _ upd_same).1
      show PySem.W.OwitIt _ _ _ _ _ _
      unfold PySem.W.OwitIt
      refine wpAny_specialOf (name := Str.ofString "__next__") (s := ⟨h1, g1, d1, t1, sA.os⟩) ti1.typeIs PySem.F.slot_tuple_iterator_next.lookup ?_
      dsimp only
      refine wpAny_bind (wpAny_holding (lot_hint ML FL bL rL hfr I1 (ex1 _ _ ha) hz (fun H' e => hL H' fun b o z => e b o (ex1 b o z)) fun k s2 H2 I2 un2 os2 ex2 => ?_))
      have nSi : S ≠ it := ne_of_none hS hit
      have hS2 : H2 S = some (.lst []) := ex2 _ _ (ex1 _ _ hS)
      have hT2 : H2 it = some (TitO t it) := ex2 _ _ upd_same
      have ht2 : H2 t = some (.tup zs) := ex2 _ _ (ex1 _ _ ht)
      obtain ⟨its, rvs, pl, hzz⟩ := I2.tuple (.inl (.inl ht2))
      have nti : t ≠ it := ne_of_none ht hit
      have nSt : S ≠ t := fun z => by rw [z, ht] at hS; cases hS
      have hzl := rvs.length
      have un12 : Un (frs X.stack) [] HA H2 sA.heap s2.heap := un1.trans un2
      have nit : sA.heap.get? it = none := by
        cases z : sA.heap.get? it with
        | none => rfl
        | some o =>
          have := un1.free it o z hit (by simp)
          rw [upd_same] at this
          cases this
      have loop : ∀ (s4 : Shared) (c4 : Nat), (∀ b o, b ≠ S → s2.heap.get? b = some o → s4.heap.get? b = some o) → s4.heap.get? S = some { cls := .type "list", dict := none, data := .seq #[] c4, slots := #[] } → s4.gens = s2.gens → s4.os = s2.os →
          codeAny (model X.prog X.w) A1 (.builtin "list.extend.loop" ⟨[.ref S, .ref it, .none], []⟩) Rs s4 := by
        intro s4 c4 k4 e4 q4 o4
        have hh : A1.in1.handled = none := rI.hd
        have W := (Walks.tuple (prog := X.prog) (w := X.w) (A := A1.in1) hh it t nti its.toArray).toS
        have st0 : s4.heap.IsTupleIter it t 0 ∧ s4.heap.IsTuple t its.toArray := by
          refine ⟨?_, ?_⟩
          · obtain ⟨o, ho, r⟩ := (I2.hok it _ hT2).1
            exact ⟨o, k4 _ _ (Ne.symm nSi) ho, r⟩
          · obtain ⟨o, ho, r⟩ := pl
            exact ⟨o, k4 _ _ (Ne.symm nSt) ho, r⟩
        refine codeAny_extend_loopS W (by rw [List.size_toArray, sizeLine_eq]; omega) S (by simp [nSi, nSt]) .none _ 0 s4 #[] c4 rfl (Nat.zero_le _) st0 e4 (ItemsOf.nil _) fun s5 acc c5 mv e5 hacc => ?_
        have eacc : acc.toList = its := items_same hacc
        have k5 : ∀ b o, b ≠ S → b ≠ it → s2.heap.get? b = some o → s5.heap.get? b = some o := fun b o n1 n2 e => mv.heap b o (by simp [n1, n2]) (k4 b o n1 e)
        have un5 : Un (frs X.stack) [] HA (upd (del H2 it) S (.lst zs)) sA.heap s5.heap := by
          have nS : ∀ b, HA b = none → b ≠ S := fun b n z => by rw [z, hS] at n; cases n
          have nI : ∀ b o, sA.heap.get? b = some o → b ≠ it := fun b o e z => by rw [z, nit] at e; cases e
          have old : ∀ b y, HA b = some y → (∀ xs, y ≠ .lst xs) → upd (del H2 it) S (.lst zs) b = some y := fun b y e n => by
            rw [upd_ne (fun z => by rw [z, hS] at e; cases e; exact n _ rfl), del_ne (ne_of_none e hit)]
            exact ex2 _ _ (ex1 _ _ e)
          refine ⟨fun b o e n hb hx => k5 b o (nS b n) (nI b o e) (un12.keep b o e n hb hx), fun b o e n hb hx => ?_, fun b o e n hx => ?_, fun b o e hx => ?_, fun b xs e => old b _ e (fun _ z => nomatch z), fun b o y e => old b _ e (fun _ z => nomatch z), fun b ps e => ⟨#[], ?_⟩⟩
          · obtain ⟨sl, e'⟩ := un12.slot b o e n hb hx
            exact ⟨sl, k5 b _ (nS b n) (nI b o e) e'⟩
          · rw [upd_ne (nS b n), del_ne (nI b o e)]; exact un12.free b o e n hx
          · by_cases z : b = S
            · rw [z]; exact ⟨_, e5⟩
            · obtain ⟨o', e'⟩ := un12.there b o e hx
              exact ⟨o', k5 b o' z (nI b o e) e'⟩
          · rw [old b _ e (fun _ z => nomatch z)]; simp
        have hok5 : HOk X.prog X.w (upd (del H2 it) S (.lst zs)) s5.heap := fun b y e => by
          by_cases z : b = S
          · rw [z, upd_same] at e
            cases e
            rw [z]
            refine ⟨by rw [sizeLine_eq]; omega, its, c5, rvs, ?_⟩
            rw [← eacc, Array.toArray_toList]
            exact e5
          · rw [upd_ne z] at e
            have n2 : b ≠ it := fun w => by rw [w, del_same] at e; cases e
            rw [del_ne n2] at e
            have same : ∀ c y, H2 c = some y → (∀ xs, y ≠ .lst xs) → (∀ g, y ≠ .ext g) → upd (del H2 it) S (.lst zs) c = some y := fun c y e n m => by
              rw [upd_ne (fun z => by rw [z, hS2] at e; cases e; exact n _ rfl), del_ne (fun z => by rw [z, hT2] at e; cases e; exact m _ rfl)]
              exact e
            refine (I2.hok b y e).stay (fun c x hc q => k5 c x ?_ ?_ q) (fun c q => same c _ q (fun _ w => nomatch w) (fun _ w => nomatch w)) fun c xs q => same c _ q (fun _ w => nomatch w) (fun _ w => nomatch w)
            · rcases hc with hc | hc
              · rw [hc]; exact z
              · exact fun w => by rw [w, hS2] at hc; cases hc
            · rcases hc with hc | hc
              · rw [hc]; exact n2
              · exact fun w => by rw [w, hT2] at hc; cases hc
        obtain ⟨h5, g5, d5, t5, o5⟩ := s5
        have bare5 : AllBare g5 := by
          have : g5 = s4.gens := mv.gens
          rw [this, q4]
          exact I2.bare
        cases (show o5 = sA.os from (mv.os.trans o4).trans os2)
        refine hdone _ _ (IA.call (h' := h5) (g' := g5) (d' := d5) (t' := t5) (ch := []) un5 hok5 bare5 (fun b z => absurd z (by simp))) (fun b o nb e => ?_) upd_same
        rw [upd_ne nb, del_ne (ne_of_none e hit)]
        exact ex2 _ _ (ex1 _ _ e)
      obtain ⟨z4, its4, k4, r4, hl4, e4⟩ := I2.lstM hS2
      cases r4
      refine wpAny_ite_split (fun _ => ?_) (fun _ => wpAny_pure ⟨plainId_quiet PySem.F.plain_extend_loop _, loop s2 k4 (fun _ _ _ e => e) e4 rfl rfl⟩)
      refine wpAny_bind (wpAny_rule (wpAny_bind ?_))
      show wpAny _ _ (updateSeq S (·.push .none) >>= fun _ => updateSeq S (·.pop)) _ _ _
      refine wpAny_bind (wpAny_updateSeq e4 rfl ?_)
      have q1 := PySem.IsL.update e4 (·.push Value.none)
      refine wpAny_updateSeq q1 rfl ?_ (by show 1 ≤ sizeLine; rw [sizeLine_eq]; decide) (by show 0 ≤ sizeLine + 1; exact Nat.zero_le _)
      have q2 := PySem.IsL.update q1 (·.pop)
      refine wpAny_pure ⟨plainId_quiet PySem.F.plain_extend_loop _, loop _ _ (fun b o nb e => ?_) q2 rfl rfl⟩
      exact (Heap.get?_update_other _ _ (Ne.symm nb)).trans ((Heap.get?_update_other _ _ (Ne.symm nb)).trans e)
/-- list(o) -/
def rListOT (C : Addr) (f : Str) (spL : Sp) : List V → Hp → VK → Prop := fun xs H Q => ∃ a dx fs t zs, xs = [.ref a] ∧ H a = some (.ins C dx fs) ∧ fs.lookup f = some (.ref t) ∧ H t = some (.tup zs) ∧ zs.length ≤ 1000 ∧ TellsLen spL a H zs.length ∧
  ∀ q H', H q = none → (∀ b o, H b = some o → H' b = some o) → H' q = some (.lst zs) → Q (.ref q) H'
theorem c_listOT (MI : SpM X.K C fI "__iter__") (FI : FnOk X.prog X.w X.K X.mg X.base CX0 kI fI fdI psI (spIterT C f)) (bI : Binds X.K fdI psI []) (ML : SpM X.K C fL "__len__") (FL : FnOk X.prog X.w X.K X.mg X.base CX0 kL fL fdL psL spL) (bL : Binds X.K fdL psL [])
    (rI : Room (kI + 2) X.A) (rL : Room (kL + 3) X.A) : CallR X (.type "list") (rListOT C f spL) := by
  intro pins s σ H xs us Q I rv h
  obtain ⟨a, dx, fs, t, zs, rfl, ha, hl, ht, hz, hL, hq⟩ := h
  obtain ⟨u, rfl, ru⟩ := vals1 rv
  cases (show u = Value.ref a from ru)
  refine callType_codes (Q₁ := fun ob z => ob = .ref s.heap.objs.size ∧ z = { s with heap := s.heap.push { cls := .type "list", data := .seq #[] } })
    PySem.F.called_list (PySem.F.typeCall_list_1 _) PySem.F.entry_list_init (code_list_new _ ⟨rfl, rfl⟩) fun ob z hoz => ?_
  obtain ⟨rfl, rfl⟩ := hoz
  have gS : (s.heap.push { cls := .type "list", data := .seq #[] }).get? s.heap.objs.size = some { cls := .type "list", data := .seq #[] } := Heap.get?_push_size _ rfl
  refine ⟨⟨_, gS, rfl⟩, PySem.F.args_list_init_2 _ _, ?_⟩
  have nS : H s.heap.objs.size = none := I.hok.fresh (Nat.le_refl _)
  have J1 : Inv X pins σ (upd H s.heap.objs.size (.lst [])) { s with heap := s.heap.push { cls := .type "list", data := .seq #[] } } := I.lnew (its := []) (t' := s.toks) .nil (Nat.zero_le _)
  show wpAny _ _ (do
    let old ← Builtin.List.listItems (.ref s.heap.objs.size)
    Builtin.List.listUpdate (.ref s.heap.objs.size) (fun _ => #[])
    letGo old.toList.reverse
    Builtin.List.listExtendWith (.ref s.heap.objs.size) (.ref a) .none) _ _ _
  refine wpAny_bind ?_
  unfold Builtin.List.listItems
  refine wpAny_bind (wpAny_seqItems gS rfl (wpAny_pure ?_))
  show wpAny _ _ (updateSeq s.heap.objs.size (fun _ => #[]) >>= fun _ =>
    letGo (#[] : Array Value).toList.reverse >>= fun _ =>
    Builtin.List.listExtendWith (.ref s.heap.objs.size) (.ref a) .none) _ _ _
  refine wpAny_bind (wpAny_updateSeq gS rfl ?_)
  have J2 := J1.lset (f := fun _ => #[]) (its := []) (its' := []) (ys := []) (t' := s.toks) upd_same gS rfl .nil (Nat.zero_le _)
  rw [upd_upd] at J2
  refine wpAny_bind (wpAny_letGo ?_)
  have old : ∀ b o, H b = some o → upd H s.heap.objs.size (.lst []) b = some o := fun b o e => by rw [upd_ne (ne_of_none e nS)]; exact e
  exact lot_extend (A1 := X.A.in1) (Rs := wants (fun r z => r = .none ∧ EP X pins σ Q (.ref s.heap.objs.size) z) X.xe) MI FI bI ML FL bL (Room.in1 (Room.in1 rI)) (Room.in1 (Room.in1 rL)) rfl J2 (old _ _ ha) hl (old _ _ ht) hz
    (fun H' e => hL H' fun b o z => e b o (old b o z)) upd_same
    (fun s5 H5 I5 e5 q5 => ⟨rfl, .ref s.heap.objs.size, H5, I5, rfl, hq _ H5 nS (fun b o z => e5 b o (ne_of_none z nS) (old b o z)) q5⟩)
end
end L2

/-! for x in o, o of an own class whose __iter__ gives iter(t), t a tuple of its: the iterator is young. -/
namespace L2
open PySem PySem.Spec PyProof.Rows
/-- a promise that may tell the heap's size at the entry -/
structure FnN (P : Program) (w : World) (K : PySem.W.Frag) (mg : Str → Option Value) (base : Heap) (CX : CXT) (k : Nat) (f : Addr) (fd : FuncData) (ps : List Str) (sp : Nat → Sp) : Prop where
  len : ∀ n vs H Q E, sp n vs H Q E → vs.length = ps.length
  run : ∀ (A : Around) (outer : List Env) (s : Shared) (H : Hp) (args : Args) (us : List Value) (vs : List V) (Q : VK) (E : XK), Room k A → Env0 P w K mg base A outer s H → BindsTo s fd args (ps.zip us) → Vals vs us → sp s.heap.objs.size vs H Q E →
    codeAny (model P w) A (.call (.ref f) args) (CR CX outer P w H s Q E) s
theorem Fun.okN {P : Program} {w : World} {K : PySem.W.Frag} {mg : Str → Option Value} {base : Heap} {x qual : Str} {st : Stmt} {f : Addr} {fd : FuncData} {N ps : List Str} {k : Nat} {sp : Nat → Sp} (F : Fun K x qual st f fd) (S : FnScope N ps (defScope st)) (len : ∀ n vs H Q E, sp n vs H Q E → vs.length = ps.length)
    (hb : ∀ (cdv : Value) (A : Around) (outer : List Env) (s : Shared) (H : Hp) (vs : List V) (Q : VK) (E : XK), Room k (A.deeper (envOfC qual (defScope st) s.heap.objs.size f cdv)) → sp s.heap.objs.size vs H Q E →
      ∃ t, PSs (cxOf CX0 P w K mg base N qual (defScope st) f cdv A outer s H E).nox (defBody st) t ∧ t { nx := fun _ H' => Q .non H', rt := Q } (start N vs) H) : FnN P w K mg base CX0 (k + 1) f fd ps sp := by
  obtain ⟨oc, od, kV, doc, pm, an, cdv, ct, osl, rfl, lk, hcd⟩ := F.ex
  refine ⟨len, fun A outer s H args us vs Q E hr e0 hbd r hsp => LamX.run_ofS lk hcd S hr e0 hbd r (len _ _ _ _ _ hsp) fun hr' => ?_⟩
  obtain ⟨t, h, q⟩ := hb cdv A outer s H vs Q E hr' hsp
  exact ⟨t, h.nox, q⟩
def rIterTN (K : PySem.W.Frag) (n : Nat) : List V → Hp → VK → Prop := fun xs H Q => ∃ (t : Addr) (zs : List V), xs = [.ref t] ∧ SqT K H t zs ∧ ∀ it, H it = none → n ≤ it → Q (.ref it) (upd H it (TitO t it))
section
variable {X : Cx}
theorem c_iterTN : CallR X (.builtin "iter") (rIterTN X.K X.s_0.heap.objs.size) := by
  intro pins s σ H xs us Q I r h
  obtain ⟨t, zs, rfl, hq, q⟩ := h
  obtain ⟨u, rfl, rx⟩ := vals1 r
  cases (show u = Value.ref t from rx)
  obtain ⟨its, rv, pl, hz⟩ := I.tuple hq
  refine Calls.call_function_entry (by decide +kernel) (by decide +kernel) PySem.W.kdk_entry_iter (PySem.W.kdk_args_iter _) ?_
  unfold Builtin.«iter»
  refine wpAny_bind (m := someArgs "iter" 1 2 _) (wpAny_of_eq (a := [Value.ref t]) (by first | rfl | kernel_rfl!) ?_)
  show wpAny _ _ (pyIter (.ref t) >>= _) _ _ _
  refine wpAny_bind (wpAny_pyIter_tuple pl (wpAny_pure ⟨_, rfl, ?_⟩))
  exact ⟨.ref s.heap.objs.size, _, I.laid (t' := s.toks) (fun b u e => Heap.get?_push_of_some _ e) (Nat.le_refl _) (titO_ok ⟨_, Heap.get?_push_size _ rfl, rfl, rfl⟩), rfl, q _ (I.hok.fresh (Nat.le_refl _)) I.sz⟩
def spIterN (C : Addr) (f : Str) : Nat → Sp := fun n vs H Q _ => ∃ a dx fs t zs, vs = [.ref a] ∧ H a = some (.ins C dx fs) ∧ fs.lookup f = some (.ref t) ∧ H t = some (.tup zs) ∧ ∀ it, H it = none → n ≤ it → Q (.ref it) (upd H it (TitO t it))
theorem FnN.plain {P : Program} {w : World} {K : PySem.W.Frag} {mg : Str → Option Value} {base : Heap} {k : Nat} {f C : Addr} {fd : FuncData} {ps : List Str} {g : Str} (F : FnN P w K mg base CX0 k f fd ps (spIterN C g)) : FnOk P w K mg base CX0 k f fd ps (spIterT C g) :=
  ⟨fun vs H Q E h => F.len 0 vs H Q E (let ⟨a, dx, fs, t, zs, h1, h2, h3, h4, q⟩ := h; ⟨a, dx, fs, t, zs, h1, h2, h3, h4, fun it hi _ => q it hi⟩),
   fun A outer s H args us vs Q E hr e0 hb r h => F.run A outer s H args us vs Q E hr e0 hb r (let ⟨a, dx, fs, t, zs, h1, h2, h3, h4, q⟩ := h; ⟨a, dx, fs, t, zs, h1, h2, h3, h4, fun it hi _ => q it hi⟩)⟩
/-- for .. in e, e of such a class -/
def iOwnT (K : PySem.W.Frag) (C : Addr) (f : Str) (te : TE) : TI := fun σ H R => te σ H fun x H1 => ∃ a dx fs t zs, x = .ref a ∧ H1 a = some (.ins C dx fs) ∧ fs.lookup f = some (.ref t) ∧ H1 t = some (.tup zs) ∧ R (Itt K t) H1
variable {kI : Nat} {C fI : Addr} {fdI : FuncData} {psI : List Str} {f : Str} {e tg : Expr} {te : TE}
theorem pi_ownT (MI : SpM X.K C fI "__iter__") (FI : FnN X.prog X.w X.K X.mg X.base CX0 kI fI fdI psI (spIterN C f)) (bI : Binds X.K fdI psI []) (rI : Room kI X.A) (he : PE X e te) : PI X tg e (iOwnT X.K C f te) := by
  refine ⟨fun pins s σ H R I h => ?_⟩
  refine thn (he.run pins s σ H _ I h) fun v s0 ⟨x, HA, IA, rx, a, dx, fs, t, zs, ex, ha, hl, ht, q⟩ => ?_
  subst ex
  cases (show v = Value.ref a from rx)
  obtain ⟨mA, J, _⟩ := ins_get IA.hok ha
  obtain ⟨od, J, _⟩ := J.look
  obtain ⟨m0, hF⟩ := IA.fr
  refine PySem.W.owit_iter hF IA.ok.mod.kin J MI.hs MI.hf ?_
  have rv0 : Vals [V.ref a] [Value.ref a] := .cons rfl .nil
  have hsp : spIterN C f s0.heap.objs.size [.ref a] HA (fun v H' => ∃ it, HA it = none ∧ s0.heap.objs.size ≤ it ∧ v = .ref it ∧ H' = upd HA it (TitO t it)) (fun _ _ _ => False) := ⟨a, dx, fs, t, zs, rfl, ha, hl, ht, fun it hi hn => ⟨it, hi, hn, rfl, rfl⟩⟩
  have hlen := FI.len _ _ _ _ _ hsp
  refine wpAny_call (codeAny_mono (FI.run X.A X.stack s0 HA ⟨[.ref a], []⟩ [.ref a] [.ref a] _ _ rI IA.env0 (by
    have z := bI s0 [.ref a] IA.kIn (by simpa using hlen)
    simpa using z) rv0 hsp) fun r s1 hr1 => ?_)
  cases r with
  | error e => exact hr1.elim
  | ok fl =>
    cases fl with
    | next => exact False.elim hr1
    | brk => exact False.elim hr1
    | cont => exact False.elim hr1
    | ret u =>
      obtain ⟨v, H1, I1, rv, it, hit, hy, ev, eH⟩ := IA.after hr1
      subst ev
      subst eH
      cases (show u = Value.ref it from rv)
      have ti1 : s1.heap.IsTupleIter it t 0 := (I1.hok it _ upd_same).1
      show PySem.W.OwitIt _ _ _ _ _ _
      unfold PySem.W.OwitIt
      refine wpAny_specialOf (name := Str.ofString "__next__") ti1.typeIs PySem.F.slot_tuple_iterator_next.lookup ?_
      dsimp only
      have I2 := ItX.inv_drop I1 upd_same
      have fp := ItX.inv_fp I1 upd_same (Nat.le_trans IA.sz hy)
      rw [ItX.dropH_upd hit] at I2 fp
      exact ⟨it, [it], _, _, HA, rfl, I2, turn_tuple t it, ti1, fun b hb => by rw [List.mem_singleton.mp hb]; exact fp, q⟩
end
end L2

/-! Loops and comprehensions over what is known: lists, tuples, ranges, own classes. -/
namespace AW
open PySem PySem.Spec PyProof.Rows L2
/-- what an iterator gives, as long as ka holds -/
def Gives (J : It) (xs : List V) (ka : Hp → Prop) : Prop := ∀ kn H, Ext kn H → ka kn →
  (∀ i, i < xs.length → J.go i H) ∧ (∀ i, xs.length ≤ i → J.stop i H) ∧ ∀ i x H', J.yld i H x H' → H' = H ∧ (i < xs.length → xs[i]? = some x)
def WI (c : Cw) (wi : Hp → (It → Hp → Prop) → Prop) (kn : Hp) (n : Nat) (R : It → Hp → Nat → Prop) : Prop :=
  ∀ H, Good c kn n H → ∀ R' : It → Hp → Prop, (∀ J kn' n' H', R J kn' n' → Good c kn' n' H' → R' J H') → wi H R'
section
variable {K : PySem.W.Frag} {a : Addr} {xs : List V}
theorem gives_tup : Gives (Itt K a) xs fun kn => kn a = some (.tup xs) := fun kn H e h =>
  ⟨fun i hi => ⟨xs, xs[i], sqt (e _ _ h), List.getElem?_eq_getElem hi⟩, fun i hi => ⟨xs, sqt (e _ _ h), hi⟩, fun i x H' y => ⟨y.1, fun _ => y.2 xs (sqt (e _ _ h))⟩⟩
theorem gives_lst : Gives (Itl K a) xs fun kn => kn a = some (.lst xs) := fun kn H e h =>
  ⟨fun i hi => ⟨xs, xs[i], sql (e _ _ h), List.getElem?_eq_getElem hi⟩, fun i hi => ⟨xs, sql (e _ _ h), hi⟩, fun i x H' y => ⟨y.1, fun _ => y.2 xs (sql (e _ _ h))⟩⟩
theorem gives_rng {lo : Int} {m : Nat} : Gives (Itr lo m) ((List.range m).map fun i => V.int (lo + (i : Nat))) fun _ => True := fun kn H e h =>
  ⟨fun i hi => by rw [List.length_map, List.length_range] at hi; exact hi, fun i hi => by rw [List.length_map, List.length_range] at hi; exact hi,
   fun i x H' y => ⟨y.1, fun hi => by rw [List.length_map, List.length_range] at hi; rw [List.getElem?_map, List.getElem?_range hi, y.2]; rfl⟩⟩
variable {c : Cw} {kn : Hp} {n : Nat} {σ : L2.St} {R : It → Hp → Nat → Prop} {te : TE} {ta : TA}
theorem i_tup (h : W c (te σ) kn n fun x kn1 n1 => ∃ a xs, x = .ref a ∧ kn1 a = some (.tup xs) ∧ R (Itt K a) kn1 n1) : WI c (iTup K te σ) kn n R :=
  fun H g R' q => h H g _ fun x kn1 n1 H1 ⟨a, xs, e, ha, hr⟩ g1 => ⟨a, e, ⟨xs, sqt (g1.ex _ _ ha)⟩, q _ _ _ _ hr g1⟩
theorem i_list (h : W c (te σ) kn n fun x kn1 n1 => ∃ a xs, x = .ref a ∧ kn1 a = some (.lst xs) ∧ R (Itl K a) kn1 n1) : WI c (iList K te σ) kn n R :=
  fun H g R' q => h H g _ fun x kn1 n1 H1 ⟨a, xs, e, ha, hr⟩ g1 => ⟨a, e, ⟨xs, sql (g1.ex _ _ ha)⟩, q _ _ _ _ hr g1⟩
theorem i_rng1 (h : W c (ta σ) kn n fun vs kn1 n1 => ∃ j : Int, vs = [.int j] ∧ -(2 ^ 62) ≤ j ∧ j < 2 ^ 62 ∧ R (Itr 0 j.toNat) kn1 n1) : WI c (iRng1 ta σ) kn n R :=
  fun H g R' q => h H g _ fun vs kn1 n1 H1 ⟨j, e, b1, b2, hr⟩ g1 => ⟨j, e, b1, b2, q _ _ _ _ hr g1⟩
theorem i_rng2 (h : W c (ta σ) kn n fun vs kn1 n1 => ∃ i j : Int, vs = [.int i, .int j] ∧ (-(2 ^ 62) ≤ i ∧ i < 2 ^ 62 ∧ -(2 ^ 62) ≤ j ∧ j < 2 ^ 62) ∧ R (Itr i (j - i).toNat) kn1 n1) : WI c (iRng2 ta σ) kn n R :=
  fun H g R' q => h H g _ fun vs kn1 n1 H1 ⟨i, j, e, b, hr⟩ g1 => ⟨i, j, e, b, q _ _ _ _ hr g1⟩
theorem i_own {C : Addr} {f : Str} (h : W c (te σ) kn n fun x kn1 n1 => ∃ a dx fs t zs, x = .ref a ∧ kn1 a = some (.ins C dx fs) ∧ fs.lookup f = some (.ref t) ∧ kn1 t = some (.tup zs) ∧ R (Itt K t) kn1 n1) : WI c (iOwnT K C f te σ) kn n R :=
  fun H g R' q => h H g _ fun x kn1 n1 H1 ⟨a, dx, fs, t, zs, e, ha, hl, ht, hr⟩ g1 => ⟨a, dx, fs, t, zs, e, g1.ex _ _ ha, hl, g1.ex _ _ ht, q _ _ _ _ hr g1⟩
/-- a loop -/
theorem s_forJ {D : AE} {wi : TI} {gt : TG} {tb : TS}
    (h : WI c (wi σ) kn n fun J kn1 n1 => ∃ (xs : List V) (ka : Hp → Prop) (Pv : Nat → L2.St → Hp → Nat → Prop), Gives J xs ka ∧ Pv 0 σ kn1 n1 ∧ (∀ i σ' kn' n', Pv i σ' kn' n' → ka kn') ∧
      (∀ i x σ' kn' n', xs[i]? = some x → Pv i σ' kn' n' → WG c gt x σ' kn' n' fun σ2 kn2 n2 => WS c tb { D with nx := Pv (i + 1), ct := Pv (i + 1), bk := D.nx } σ2 kn2 n2) ∧
      ∀ σ' kn' n', Pv xs.length σ' kn' n' → D.nx σ' kn' n') : WS c (tFor wi gt tb) D σ kn n := by
  intro H g D' f
  refine h H g _ fun J kn1 n1 H1 hJ g1 => ?_
  obtain ⟨xs, ka, Pv, hG, h0, hk, hs, hd⟩ := hJ
  refine ⟨fun i m σ' H' => m = xs.length - i ∧ i ≤ xs.length ∧ ∃ kn' n', Pv i σ' kn' n' ∧ Good c kn' n' H', ⟨_, rfl, Nat.zero_le _, kn1, n1, h0, g1⟩, ?_⟩
  rintro i m σ' H' ⟨rfl, hi, kn', n', p, g'⟩
  obtain ⟨q1, q2, q3⟩ := hG kn' H' g'.ex (hk _ _ _ _ p)
  by_cases hlt : i < xs.length
  · refine .inr ⟨q1 i hlt, fun σ2 H2 => ∃ kn2 n2, Pv (i + 1) σ2 kn2 n2 ∧ Good c kn2 n2 H2, fun σ2 H2 ⟨kn2, n2, p2, g2⟩ => ⟨xs.length - (i + 1), by omega, rfl, hlt, kn2, n2, p2, g2⟩, fun x H2 y => ?_⟩
    obtain ⟨e, hx⟩ := q3 i x H2 y
    subst e
    refine hs i x σ' kn' n' (hx hlt) p H2 g' _ fun σ3 kn3 n3 H3 h3 g3 => h3 H3 g3 _ ⟨fun σ4 kn4 n4 H4 h4 g4 => ⟨kn4, n4, h4, g4⟩, f.rt, fun σ4 kn4 n4 H4 h4 g4 => f.nx _ _ _ _ h4 g4, fun σ4 kn4 n4 H4 h4 g4 => ⟨kn4, n4, h4, g4⟩⟩
  · have e : i = xs.length := Nat.le_antisymm hi (Nat.le_of_not_lt hlt)
    exact .inl ⟨q2 i (Nat.le_of_not_lt hlt), f.nx _ _ _ _ (hd σ' kn' n' (e ▸ p)) g'⟩
/-- a comprehension of a list -/
theorem w_lc {Q : V → Hp → Nat → Prop} {wi : TI} {gt : TG} {tt : TT} {vs : List Nat}
    (h : WI c (wi σ) kn n fun J kn1 n1 => ∃ (xs : List V) (ka : Hp → Prop) (Pv : Addr → Nat → List V → Hp → Nat → Prop), Gives J xs ka ∧ xs.length ≤ 100000 ∧ (∀ D, kn1 D = none → Pv D 0 [] (upd kn1 D (.lst [])) n1) ∧
      (∀ D i acc kn' n', Pv D i acc kn' n' → ka kn' ∧ kn' D = some (.lst acc) ∧ acc.length ≤ i) ∧
      (∀ D i acc x kn' n', xs[i]? = some x → Pv D i acc kn' n' → WG c gt x (wipe σ vs) kn' n' fun σ2 kn2 n2 => wipe σ2 vs = wipe σ vs ∧ W c (tt σ2) kn2 n2 fun b kn3 n3 =>
        (b = true → W c (te σ2) kn3 n3 fun y kn4 n4 => kn4 D = some (.lst acc) ∧ Pv D (i + 1) (acc ++ [y]) (upd kn4 D (.lst (acc ++ [y]))) n4) ∧ (b = false → Pv D (i + 1) acc kn3 n3)) ∧
      ∀ D acc kn' n', Pv D xs.length acc kn' n' → Q (.ref D) kn' n') : W c (tLc wi gt tt te vs σ) kn n Q := by
  intro H g Q' q
  refine h H g _ fun J kn1 n1 H1 hJ g1 => ?_
  obtain ⟨xs, ka, Pv, hG, hz, h0, hk, hs, hd⟩ := hJ
  intro D hD
  refine ⟨fun i m H' => m = xs.length - i ∧ i ≤ xs.length ∧ ∃ acc kn' n', Pv D i acc kn' n' ∧ Good c kn' n' H', ⟨_, rfl, Nat.zero_le _, [], _, _, h0 D (g1.free hD), g1.new hD⟩, ?_⟩
  rintro i m H' ⟨rfl, hi, acc, kn', n', p, g'⟩
  obtain ⟨k1, k2, k3⟩ := hk _ _ _ _ _ p
  obtain ⟨q1, q2, q3⟩ := hG kn' H' g'.ex k1
  by_cases hlt : i < xs.length
  · refine .inr ⟨q1 i hlt, fun H2 => ∃ acc kn2 n2, Pv D (i + 1) acc kn2 n2 ∧ Good c kn2 n2 H2, fun H2 ⟨acc, kn2, n2, p2, g2⟩ => ⟨xs.length - (i + 1), by omega, rfl, hlt, acc, kn2, n2, p2, g2⟩, fun x H2 y => ?_⟩
    obtain ⟨e, hx⟩ := q3 i x H2 y
    subst e
    refine hs D i acc x kn' n' (hx hlt) p H2 g' _ fun σ3 kn3 n3 H3 h3 g3 => ⟨h3.1, h3.2 H3 g3 _ fun b kn4 n4 H4 h4 g4 => ?_⟩
    cases b with
    | true => exact iteT (h4.1 rfl H4 g4 _ fun y kn5 n5 H5 h5 g5 => ⟨acc, g5.ex _ _ h5.1, by rw [sizeLine_eq]; omega, _, _, _, h5.2, g5.put h5.1 rfl⟩)
    | false => exact iteF ⟨_, _, _, h4.2 rfl, g4⟩
  · have e : i = xs.length := Nat.le_antisymm hi (Nat.le_of_not_lt hlt)
    exact .inl ⟨q2 i (Nat.le_of_not_lt hlt), q _ _ _ _ (hd D acc kn' n' (e ▸ p)) g'⟩
end
end AW

/-! bool(o) by an own __bool__; static methods; loops over lists or tuples; isinstance with a tuple; all. -/
namespace L2
open PySem PySem.Spec PyProof.Rows
theorem bool_new_own {prog : Program} {w : World} {x : Addr} : MeetsIn prog w (Builtin.«bool.__new__» ⟨[.type "bool", .ref x], []⟩) (fun A R s => wpAny (model prog w) A.in1 (truthy (.ref x)) (fun b s' => R (.ok (.ret (.bool b))) { s' with toks := s'.toks }) (fun e s' => R (.error e) s') s) := by
  intro A R s h
  obtain ⟨hp, g, d, tk, os⟩ := s
  have f1 := F.conv_sub_bool
  repeat (any_goals (first | assumption | (with_reducible refine wpAny_mono h (fun b s' hb => ?_) (fun _ _ z => z)) | wp_step))
  all_goals first | exact hb | exact ⟨_, rfl, hb⟩
section
variable {X : Cx} {CX : CXT} {k : Nat} {f C p : Addr} {fd : FuncData} {ps : List Str} {sp : Sp} {E : XK}
/-- bool(o) -/
def rBoolO (C : Addr) (sp : Sp) : List V → Hp → VK → Prop := fun xs H Q => ∃ a dx fs, xs = [.ref a] ∧ H a = some (.ins C dx fs) ∧ sp [.ref a] H (fun v H' => ∃ b, v = .bl b ∧ Q (.bl b) H') (fun _ _ _ => False)
theorem c_boolO (M : SpM X.K C f "__bool__") (F : FnOk X.prog X.w X.K X.mg X.base CX k f fd ps sp) (hr : Room (k + 2) X.A) (hb : Binds X.K fd ps []) (hx : Passes CX X (fun _ _ _ => False)) : CallR X (.type "bool") (rBoolO C sp) := by
  intro pins s σ H xs us Q I r h
  obtain ⟨a, dx, fs, rfl, ha, hq⟩ := h
  obtain ⟨u, rfl, rx⟩ := vals1 r
  cases (show u = Value.ref a from rx)
  obtain ⟨_, J, _⟩ := ins_get I.hok ha
  obtain ⟨_, J, _⟩ := J.look
  obtain ⟨_, hF⟩ := I.fr
  refine callType_newIn PySem.F.called_bool PySem.F.newNe_bool (PySem.F.typeCall_bool_1 _) (PySem.F.newCall_bool_1 _) (fun obj => PySem.F.args_object_init_2 obj _) PySem.F.entry_bool_new bool_new_own ?_
  refine PySem.W.truthy_K hF I.ok.mod.kin J M.hs M.hf (wpAny_mono (callA (A := X.A.in1.in1) (vs := [.ref a]) F hr.in1.in1 rfl hb hx I (.cons rfl .nil) hq) (fun z s' hz => ?_) fun _ _ z => z)
  obtain ⟨v', H', I', rv, b, e, q⟩ := hz
  subst e
  cases (show z = Value.bool b from rv)
  exact ⟨PySem.typeIs_bool _ _, .bl b, H', I', rfl, q⟩
end
end L2
namespace L2
open PySem PySem.Spec PyProof.Rows ClX
/-- C.m is a static method: its record at p, its def at f -/
structure SMet (K : PySem.W.Frag) (C : Addr) (mc : Value) (m : Str) (p f : Addr) : Prop where
  at_ : PySem.W.findCls K (.ref C) mc m = some (.get (.builtin "staticmethod.__get__") (.ref p) .none (.ref C))
  rc : ∃ rest, PySem.W.recIn K p "staticmethod" = some (.ref f :: rest)
  kp : PySem.W.keepIn K (.ref f) = true
section
variable {X : Cx} {CX : CXT} {k : Nat} {f C p : Addr} {mc : Value} {m : Str} {fd : FuncData} {ps : List Str} {sp : Sp} {E : XK} {o e : Expr} {es : List Expr} {pos apos : Pos} {ta : TE} {t : TA} {pl : Sem Bool} {pins : List (Addr × Obj)} {σ : St} {H : Hp} {s : Shared}
theorem getsm_ok {A : Around} {E : Value → Shared → Prop} {Q : Value × List Value → Shared → Prop} (I : Inv X pins σ H s) (r : CRead X.K C mc) (c : SMet X.K C mc m p f) (h : ∀ s', Inv X pins σ H s' → Q (.ref f, []) s') : wpAny (model X.prog X.w) A (getMethod (.ref C) m pl) Q E s := by
  obtain ⟨rest, hp⟩ := c.rc
  exact PySem.W.method_cls I.kIn r.ga (PySem.W.cls_bind I.kIn r.rd c.at_ (wpAny_call (PySem.W.sm_get (s := { s with toks := s.toks + 1 }) I.kIn hp (PySem.W.handed_on rfl (h _ (I.tok _))))))
def tSMeth (C : Addr) (sp : Sp) (E : XK) (ta : TE) (t : TA) : TE := fun σ H Q => ta σ H fun x H1 => x = .ref C ∧ t σ H1 fun vs H2 => sp vs H2 Q E
theorem pe_smeth (he : PE X o ta) (r : CRead X.K C mc) (c : SMet X.K C mc m p f) (F : FnR X.prog X.w X.K X.mg X.base CX k f sp) (hr : Room k X.A) (hx : Passes CX X E) (ha : PA X (e :: es) t)
    (hst : starEach (e :: es) X.env = (false, eval e X.env) :: starEach es X.env := by rfl) (hpl : (backTo pos (starEach es X.env)).any (·.1) = false := by rfl)
    (ht : eval (.Call (.Attribute o m apos) (e :: es) [] pos) X.env = (do
      let ov ← eval o X.env
      standAt apos.atName
      let (f, first) ← holding [ov] (getMethod ov m pl)
      callWith pos f first (backTo pos (starEach (e :: es) X.env)) (backToKw pos (keywordEach [] X.env))) := by rfl) :
    PE X (.Call (.Attribute o m apos) (e :: es) [] pos) (tSMeth C sp E ta t) := by
  refine ⟨fun pins s σ H Q I h => ?_⟩
  refine PySem.W.methodCall_KW (pl := pl) (thn (he.run pins s σ H _ I h) fun u s1 ⟨x, H1, I1, rx, ex, q⟩ => ?_) ht
  subst ex
  obtain rfl : u = Value.ref C := rx
  refine getsm_ok I1 r c fun s2 I2 => ?_
  exact PySem.W.callWith_K (h₀ := X.base) I2.ok.mod.kin c.kp (thn (ha.run pos pins s2 σ H1 _ I2 q) fun us s3 ⟨vs, H2, I3, rv, q2⟩ => ⟨I3.kIn, wpAny_call (run_fnR F hr hx I3 rv q2)⟩) hst hpl
theorem pe_smeth0 (he : PE X o ta) (r : CRead X.K C mc) (c : SMet X.K C mc m p f) (F : FnR X.prog X.w X.K X.mg X.base CX k f sp) (hr : Room k X.A) (hx : Passes CX X E)
    (ht : eval (.Call (.Attribute o m apos) [] [] pos) X.env = (do
      let ov ← eval o X.env
      standAt apos.atName
      let (f, first) ← holding [ov] (getMethod ov m pl)
      callWith pos f first (backTo pos (starEach [] X.env)) (backToKw pos (keywordEach [] X.env))) := by rfl) :
    PE X (.Call (.Attribute o m apos) [] [] pos) (tSMeth C sp E ta tNil) := by
  refine ⟨fun pins s σ H Q I h => ?_⟩
  refine PySem.W.methodCall_KW (pl := pl) (thn (he.run pins s σ H _ I h) fun u s1 ⟨x, H1, I1, rx, ex, q⟩ => ?_) ht
  subst ex
  obtain rfl : u = Value.ref C := rx
  refine getsm_ok I1 r c fun s2 I2 => ?_
  exact PySem.W.callWith_K0 I2.kIn c.kp (wpAny_call (run_fnR (us := []) F hr hx I2 .nil q))
/-- for x in e, e a list or a tuple -/
def iSeq (K : PySem.W.Frag) (te : TE) : TI := fun σ H R => iList K te σ H R ∨ iTup K te σ H R
theorem pi_seq {tg e : Expr} {te : TE} (he : PE X e te) : PI X tg e (iSeq X.K te) := by
  refine ⟨fun pins s σ H R I h => ?_⟩
  rcases h with h | h
  · exact (pi_list he).run pins s σ H R I h
  · exact (pi_tup he).run pins s σ H R I h
def rAllQ (K : PySem.W.Frag) : List V → Hp → VK → Prop := fun vs H Q => ∃ (a : Addr) (bs : List Bool), vs = [V.ref a] ∧ SqL K H a (bs.map V.bl) ∧ Q (.bl (bs.all id)) H
theorem c_allQ (hc : X.calm = true) : CallR X (.builtin "all") (rAllQ X.K) := cr_all hc
def rInQ (K : PySem.W.Frag) (neg : Bool) : R2 := fun x y H Q => ∃ p xs, y = .ref p ∧ (SqL K H p xs ∨ SqT K H p xs) ∧ flatV x = true ∧ xs.all flatV = true ∧ Q (.bl (if neg then !inV x xs else inV x xs)) H
theorem c_inQ : OpR X (compareOp .In) (rInQ X.K false) := op_in_seq
theorem c_notInQ : OpR X (compareOp .NotIn) (rInQ X.K true) := op_notIn_seq
end
end L2
namespace AW
open PySem PySem.Spec PyProof.Rows L2 ClX
section
variable {c : Cw} {kn : Hp} {n : Nat} {σ : L2.St} {Q : V → Hp → Nat → Prop} {K : PySem.W.Frag} {E : XK} {EA : EAK} {B : List V → Hp → AK → AXK → Prop} {C : Addr} {R : It → Hp → Nat → Prop}
theorem r_boolO {a dx : Addr} {fs : List (Str × V)} (hm : MonoX B) (ha : kn a = some (.ins C dx fs)) (h : B [.ref a] kn (fun v k => ∃ b, v = .bl b ∧ Q (.bl b) k n) (fun _ _ _ => False)) : W c (rBoolO C (liftX B) [.ref a]) kn n Q :=
  fun H g Q' q => ⟨a, dx, fs, rfl, g.ex _ _ ha, sp_call (EA := fun _ _ _ _ => False) (Q := fun v k n => ∃ b, v = .bl b ∧ Q (.bl b) k n) hm err_no h H g _ fun v kn1 n1 H1 ⟨b, e, hq⟩ g1 => ⟨b, e, q _ _ _ _ hq g1⟩⟩
theorem w_smeth {ta : TE} {t : TA} (hm : MonoX B) (hE : ErrOk c EA E) (h : W c (ta σ) kn n fun x kn1 n1 => x = .ref C ∧ W c (t σ) kn1 n1 fun vs kn2 n2 => B vs kn2 (fun v k => Q v k n2) (fun cls d k => EA cls d k n2)) : W c (tSMeth C (liftX B) E ta t σ) kn n Q :=
  fun H g Q' q => h H g _ fun x kn1 n1 H1 ⟨e, h1⟩ g1 => ⟨e, h1 H1 g1 _ fun vs kn2 n2 H2 h2 g2 => sp_call hm hE h2 H2 g2 Q' q⟩
/-- a static method with *rest -/
def spStar (m : Nat) (B : List V → Hp → AK → AXK → Prop) : Sp := fun vs H Q E => ∃ ws rest, vs = ws ++ rest ∧ ws.length = m ∧ rest.length ≤ sizeLine ∧ ∀ p, H p = Option.none → liftX B (ws ++ [V.ref p]) (upd H p (.tup rest)) Q E
theorem w_smethS {ta : TE} {t : TA} {m : Nat} (hm : MonoX B) (hE : ErrOk c EA E) (h : W c (ta σ) kn n fun x kn1 n1 => x = .ref C ∧ W c (t σ) kn1 n1 fun vs kn2 n2 => ∃ ws rest, vs = ws ++ rest ∧ ws.length = m ∧ rest.length ≤ 1000 ∧
    ∀ p, kn2 p = none → B (ws ++ [.ref p]) (upd kn2 p (.tup rest)) (fun v k => Q v k n2) (fun cls d k => EA cls d k n2)) : W c (tSMeth C (spStar m B) E ta t σ) kn n Q :=
  fun H g Q' q => h H g _ fun x kn1 n1 H1 ⟨e, h1⟩ g1 => ⟨e, h1 H1 g1 _ fun vs kn2 n2 H2 ⟨ws, rest, e1, e2, e3, h2⟩ g2 => ⟨ws, rest, e1, e2, Nat.le_trans e3 (by rw [sizeLine_eq]; decide), fun p hp => sp_call hm hE (h2 p (g2.free hp)) _ (g2.new hp) Q' q⟩⟩
theorem i_seqV {i : Nat} {a : Addr} {xs : List V} (hv : σ[i]? = some (some (.ref a))) (h : (kn a = some (.lst xs) ∧ R (Itl K a) kn n) ∨ (kn a = some (.tup xs) ∧ R (Itt K a) kn n)) : WI c (iSeq K (tVar i) σ) kn n R := by
  intro H g R' q
  rcases h with ⟨ha, h⟩ | ⟨ha, h⟩
  · exact .inl (i_list (w_var hv ⟨a, xs, rfl, ha, h⟩) H g R' q)
  · exact .inr (i_tup (w_var hv ⟨a, xs, rfl, ha, h⟩) H g R' q)
theorem r_isiT {x : V} {tp : Addr} {cs : List V} {t : Value} {us : List Value} {b : Bool} (h : kn tp = some (.tup cs)) (p : Paired ClsV cs us) (ty : TyX K kn x t) (e : PySem.W.kitAny K t us = some b) (q : Q (.bl b) kn n) : W c (rIsiT K [x, .ref tp]) kn n Q :=
  fun H g _ f => ⟨x, tp, cs, t, us, b, rfl, g.ex _ _ h, p, tyx_ext g.ex ty, e, f _ kn n H q g⟩
theorem r_allQ {a : Addr} {bs : List Bool} (h : kn a = some (.lst (bs.map V.bl))) (q : Q (.bl (bs.all id)) kn n) : W c (rAllQ K [.ref a]) kn n Q := fun H g _ k => ⟨a, bs, rfl, sql (g.ex _ _ h), k _ kn n H q g⟩
theorem r_inQ {x : V} {p : Addr} {xs : List V} {neg : Bool} (h : kn p = some (.lst xs) ∨ kn p = some (.tup xs)) (h1 : flatV x = true) (h2 : xs.all flatV = true) (q : Q (.bl (if neg then !inV x xs else inV x xs)) kn n) : W c (rInQ K neg x (.ref p)) kn n Q :=
  fun H g _ k => ⟨p, xs, rfl, h.imp (fun z => sql (g.ex _ _ z)) (fun z => sqt (g.ex _ _ z)), h1, h2, k _ kn n H q g⟩
end
end AW

/-! The pen: what it draws is not told, but its bounds. -/
namespace AW
open PySem PySem.Spec PyProof.Rows L2 LamX
/-- the pen: a list of the cells' list, the spot, the number that is left over -/
structure PenAt (H : Hp) (p a : Addr) (ns : List Int) (n : Nat) : Prop where
  pen : ∃ i g : Int, H p = some (.lst [.ref a, .int i, .int g]) ∧ 0 ≤ i ∧ i ≤ n ∧ 0 ≤ g
  cells : H a = some (.lst (ns.map V.int))
  pa : p ≠ a
theorem PenAt.mono {H : Hp} {p a : Addr} {ns : List Int} {n m : Nat} (h : PenAt H p a ns n) (e : n ≤ m) : PenAt H p a ns m := by
  obtain ⟨⟨i, g, h1, h2, h3, h4⟩, h5, h6⟩ := h
  exact ⟨⟨i, g, h1, h2, by omega, h4⟩, h5, h6⟩
/-- _law_draw -/
def spDraw : Sp := fun vs H Q _ => ∃ (p a : Addr) (ns : List Int) (n : Nat) (many : Int), vs = [.ref p, .int many] ∧ PenAt H p a ns n ∧ n < 1000000 ∧ 0 < many ∧ many < 1180591620717411303424 ∧
  ∀ (k : Int) (H' : Hp), 0 ≤ k → k < many → PenAt H' p a ns (n + 1) → (∀ x o, x ≠ p → H x = some o → H' x = some o) → Q (.int k) H'
theorem nil_eqv (ns : List Int) : PyData.eqv (.list (ns.map PyData.int)) (.list []) = ns.isEmpty := by
  cases ns <;> simp [PyData.eqv, PyData.eqvAll]
theorem dp_ints {K : PySem.W.Frag} {H : Hp} : ∀ ns : List Int, DpAll K H (ns.map V.int) (ns.map PyData.int)
  | [] => .nil
  | n :: r => .cons (.int n) (dp_ints r)
theorem mul_bd {a b A B : Int} (h1 : 0 ≤ a) (h2 : a ≤ A) (h3 : 0 ≤ b) (h4 : b ≤ B) : 0 ≤ a * b ∧ a * b ≤ A * B :=
  ⟨Int.mul_nonneg h1 h3, Int.mul_le_mul h2 h4 h3 (Int.le_trans h1 h2)⟩
theorem at_mod (ns : List Int) (i : Int) (h : 0 < ns.length) : ∃ z, atI (ns.map V.int) (i % ((ns.map V.int).length : Int)) = some (.int z) := by
  rw [List.length_map]
  have h1 : 0 ≤ i % (ns.length : Int) := Int.emod_nonneg _ (by omega)
  have h2 : i % (ns.length : Int) < ns.length := Int.emod_lt_of_pos _ (by omega)
  obtain ⟨j, hj⟩ : ∃ j : Nat, i % (ns.length : Int) = j := ⟨(i % (ns.length : Int)).toNat, by omega⟩
  have hj2 : j < ns.length := by omega
  rw [hj]
  refine ⟨ns[j], atI_nat ?_⟩
  rw [List.getElem?_map, List.getElem?_eq_getElem hj2]
  rfl
theorem lay_ints : ∀ ns : List Int, PyData.canLayAll0 (ns.map PyData.int) = true
  | [] => by simp [PyData.canLayAll0]
  | n :: r => by simp only [List.map_cons, PyData.canLayAll0, PyData.canLay0, Bool.true_and]; exact lay_ints r
theorem deep_ints : ∀ ns : List Int, PyData.depthAll (ns.map PyData.int) = 0
  | [] => by simp [PyData.depthAll]
  | n :: r => by simp only [List.map_cons, PyData.depthAll, PyData.depth]; rw [deep_ints r]; rfl
theorem shaped_ints (ns : List Int) : SeqAt.shaped (.list (ns.map PyData.int)) = true := by
  unfold SeqAt.shaped
  rw [show PyData.canLay0 (.list (ns.map PyData.int)) = true by simp only [PyData.canLay0]; exact lay_ints ns, show PyData.depth (.list (ns.map PyData.int)) = 1 by simp only [PyData.depth]; rw [deep_ints ns]]
  rfl
theorem weigh_int {i : Int} (h : i.natAbs < 10 ^ 12) : PyData.weight (.int i) ≤ 41 := by
  simp only [PyData.weight]
  split
  · omega
  · rename_i z
    have z0 : i.natAbs ≠ 0 := fun e => z (by rw [beq_iff_eq]; omega)
    have a : i.natAbs < 2 ^ 40 := by omega
    have := (Nat.log2_lt z0).mpr a
    omega
theorem weigh_ints : ∀ ns : List Int, (∀ n ∈ ns, n.natAbs < 10 ^ 12) → PyData.weightAll (ns.map PyData.int) ≤ 42 * ns.length
  | [], _ => by simp [PyData.weightAll]
  | n :: r, h => by
    have h1 := weigh_int (h n List.mem_cons_self)
    have h2 := weigh_ints r fun m hm => h m (List.mem_cons_of_mem _ hm)
    simp only [List.map_cons, PyData.weightAll, List.length_cons]
    omega
theorem lay0_ints {ns : List Int} (h : ∀ n ∈ ns, n.natAbs < 10 ^ 12) (l : ns.length ≤ 1000) : PyData.layable0 (.list (ns.map PyData.int)) = true := by
  have h1 := weigh_ints ns h
  have h2 : PyData.weight (.list (ns.map PyData.int)) ≤ 2 ^ 20 := by simp only [PyData.weight]; omega
  unfold PyData.layable0
  rw [show PyData.canLay0 (.list (ns.map PyData.int)) = true by simp only [PyData.canLay0]; exact lay_ints ns, show PyData.depth (.list (ns.map PyData.int)) = 1 by simp only [PyData.depth]; rw [deep_ints ns], decide_eq_true h2]
  rfl
theorem show_ints : ∀ ns : List Int, (∀ n ∈ ns, n.natAbs < 10 ^ 12) → PyData.showableAll (ns.map PyData.int) = true
  | [], _ => by simp [PyData.showableAll]
  | n :: r, h => by
    have h0 : n.natAbs.log2 < 1920 := by
      have := h n List.mem_cons_self
      by_cases z : n.natAbs = 0
      · rw [z]; decide
      · exact Nat.lt_trans ((Nat.log2_lt z).mpr (show n.natAbs < 2 ^ 40 by omega)) (by decide)
    simp only [List.map_cons, PyData.showableAll, PyData.showable, decide_eq_true h0, Bool.true_and]
    exact show_ints r fun m hm => h m (List.mem_cons_of_mem _ hm)
theorem nodict_ints : ∀ ns : List Int, PyData.hasDictAll (ns.map PyData.int) = false
  | [] => by simp [PyData.hasDictAll]
  | n :: r => by simp only [List.map_cons, PyData.hasDictAll, PyData.hasDict, Bool.false_or]; exact nodict_ints r
theorem r_reprInts {K : PySem.W.Frag} {c : Cw} {kn : Hp} {n : Nat} {Q : V → Hp → Nat → Prop} {a : Addr} {vs : List V} (ns : List Int) (e : vs = ns.map V.int) (h : kn a = some (.lst vs)) (hb : ∀ n ∈ ns, n.natAbs < 10 ^ 12) (hl : ns.length ≤ 1000) (q : Q (.str (PyData.shown (.list (ns.map PyData.int)))) kn n) : W c (rRepr K [.ref a]) kn n Q := by
  subst e
  refine r_repr (.lst (sql h) (dp_ints ns)) ?_ ?_ ?_ ?_ q
  · simp only [PyData.showable]; exact show_ints ns hb
  · simp only [PyData.hasDict]; exact nodict_ints ns
  · simp only [PyData.depth]; rw [deep_ints ns]; decide
  · exact PyData.shown_fits_of_layable0 (B := 13) (by decide) (by decide) (lay0_ints hb hl) (by simp only [PyData.intsShort]; exact PyData.intsShortAll_ints ns hb)
theorem r_cat {c : Cw} {kn : Hp} {n : Nat} {Q : V → Hp → Nat → Prop} {l b : Addr} {xs zs : List V} (h1 : kn l = some (.lst xs)) (h2 : kn b = some (.lst zs)) (hz : xs.length + zs.length ≤ 1000) (q : ∀ p, kn p = none → Q (.ref p) (upd kn p (.lst (xs ++ zs))) n) : W c (rCat (.ref l) (.ref b)) kn n Q :=
  fun H g _ k => ⟨l, b, xs, zs, rfl, rfl, g.ex _ _ h1, g.ex _ _ h2, Nat.le_trans hz (by rw [sizeLine_eq]; decide), fun p hp => k _ _ _ _ (q p (g.free hp)) (g.new hp)⟩
theorem w_append {K : PySem.W.Frag} {c : Cw} {kn : Hp} {n i : Nat} {σ : L2.St} {Q : V → Hp → Nat → Prop} {l : Addr} {xs0 : List V} {t : TA} (hv : σ[i]? = some (some (.ref l))) (h0 : kn l = some (.lst xs0))
    (h : W c (t σ) kn n fun vs kn1 n1 => ∃ y xs, vs = [y] ∧ kn1 l = some (.lst xs) ∧ xs.length ≤ 1000 ∧ Q .non (upd kn1 l (.lst (xs ++ [y]))) n1) : W c (tBM K "list" rAppend (tVar i) t σ) kn n Q :=
  fun H g Q' q => ⟨.ref l, hv, .inl ⟨rfl, _, sql (g.ex _ _ h0)⟩, h H g _ fun vs kn1 n1 H1 ⟨y, xs, e, e1, hl, hq⟩ g1 => ⟨l, xs, y, rfl, e, g1.ex _ _ e1, Nat.lt_of_le_of_lt hl (by rw [sizeLine_eq]; decide), q _ _ _ _ hq (g1.put e1 rfl)⟩⟩
theorem Good.grow {c : Cw} {kn H H' : Hp} {n : Nat} {q : Addr} {o : HO} (g : Good c kn n H) (e : Ext H H') (h0 : H q = none) (h1 : H' q = some o) (ht : isTbl o = false := by rfl) : Good c (upd kn q o) n H' := by
  refine ⟨fun x u hx => ?_, c.step n kn H H' g.inv g.res fun x u hx _ => e x u hx, fun x r => ?_, nt_upd g.nt ht⟩
  · by_cases z : x = q
    · rw [z, upd_same] at hx; cases hx; rw [z]; exact h1
    · rw [upd_ne z] at hx; exact e x u (g.ex x u hx)
  · rw [upd_ne (fun z => c.live n H x g.inv r (by rw [z]; exact h0))]
    exact g.res x r
/-- the pen and its cells alone are known -/
def penKn (H : Hp) (p a : Addr) : Hp := fun x => if x = p ∨ x = a then H x else none
theorem TabS.keep {H H' : Hp} {P : Addr} {q : Str} (e : ∀ b o, H b = some o → isMut o = false → H' b = some o) (h : TabS H P q) : TabS H' P q := by
  obtain ⟨ps, h1, h2, h3⟩ := h
  refine ⟨ps, e _ _ h1 rfl, h2, fun pos cv hc => ?_⟩
  obtain ⟨c, e1, e2⟩ := h3 pos cv hc
  exact ⟨c, e1, e _ _ e2 rfl⟩
theorem Tabs.keep {T : List (Addr × Str)} {H H' : Hp} (e : ∀ b o, H b = some o → isMut o = false → H' b = some o) (h : Tabs T H) : Tabs T H' := fun p hp => TabS.keep e (h p hp)
def penC (p a : Addr) (ns : List Int) (T : List (Addr × Str)) : Cw where
  inv n H := PenAt H p a ns n ∧ Tabs T H
  res x := x = p ∨ x = a ∨ ∃ t ∈ T, x = t.1
  live n H x h r := by
    obtain ⟨⟨⟨i, g, h1, _⟩, h2, _⟩, hT⟩ := h
    rcases r with rfl | rfl | ⟨t, ht, rfl⟩
    · rw [h1]; exact fun z => nomatch z
    · rw [h2]; exact fun z => nomatch z
    · obtain ⟨ps, h3, _⟩ := hT t ht
      rw [h3]; exact fun z => nomatch z
  step n kn H H' h r k := by
    obtain ⟨⟨⟨i, g, h1, h1'⟩, h2, h3⟩, hT⟩ := h
    exact ⟨⟨⟨i, g, k _ _ h1 (.inl (r _ (.inl rfl))), h1'⟩, k _ _ h2 (.inl (r _ (.inr (.inl rfl)))), h3⟩, Tabs.keep (fun b o e m => k b o e (.inr m)) hT⟩
  up n m H h l := ⟨h.1.mono l, h.2⟩
section
variable {p a : Addr} {ns : List Int} {T : List (Addr × Str)} {kn : Hp} {n : Nat} {σ : L2.St} {Q : V → Hp → Nat → Prop} {E : XK} {EA : EAK} {B : List V → Hp → AK → AXK → Prop} {t : TA}
theorem w_draw (h : W (penC p a ns T) (t σ) kn n fun vs kn1 n1 => ∃ many, vs = [.ref p, .int many] ∧ n1 < 1000000 ∧ 0 < many ∧ many < 1180591620717411303424 ∧ ∀ k : Int, 0 ≤ k → k < many → Q (.int k) kn1 (n1 + 1)) : W (penC p a ns T) (tCall spDraw [] E t σ) kn n Q :=
  fun H g Q' q => h H g _ fun vs kn1 n1 H1 h1 g1 => by
    obtain ⟨many, rfl, b1, b2, b3, h2⟩ := h1
    refine ⟨p, a, ns, n1, many, rfl, g1.inv.1, b1, b2, b3, fun k H' k0 k1 hp hk => q _ _ _ _ (h2 k k0 k1) ⟨fun x o e => hk x o (fun z => ?_) (g1.ex x o e), ⟨hp, Tabs.keep (fun b o e m => hk b o (fun z => ?_) e) g1.inv.2⟩, g1.res, g1.nt⟩⟩
    · have := g1.res x (.inl z)
      rw [e] at this
      cases this
    · obtain ⟨i, g, hP, _⟩ := g1.inv.1.pen
      rw [z, hP] at e
      cases e
      cases m
/-- a promise of a def that draws m times at most -/
def liftP (T : List (Addr × Str)) (m : Nat) (B : List V → Hp → AK → AXK → Prop) : Sp := fun vs H Q E => ∃ p a ns n kn ws, vs = .ref p :: ws ∧ Good (penC p a ns T) kn n H ∧ n + m < 1000000 ∧
  B ws kn (fun v k => ∀ H', Good (penC p a ns T) k (n + m) H' → Q v H') (fun cls d k => ∀ H', Good (penC p a ns T) k (n + m) H' → E cls d H')
theorem w_callP {m : Nat} (hm : MonoX B) (hE : ErrOk (penC p a ns T) EA E) (h : W (penC p a ns T) (t σ) kn n fun vs kn1 n1 => ∃ ws, vs = .ref p :: ws ∧ n1 + m < 1000000 ∧ B ws kn1 (fun v k => Q v k (n1 + m)) (fun cls d k => EA cls d k (n1 + m))) : W (penC p a ns T) (tCall (liftP T m B) [] E t σ) kn n Q :=
  fun H g Q' q => h H g _ fun vs kn1 n1 H1 h1 g1 => by
    obtain ⟨ws, rfl, hb, h2⟩ := h1
    refine ⟨p, a, ns, n1, kn1, ws, by simp, g1, hb, hm _ _ _ _ _ _ (fun v k hq H' g' => q _ _ _ _ hq g') (fun cls d k hq H' g' => hE _ _ _ _ _ hq g') h2⟩
theorem takes_len {X : Cx} {W : WX} {m : Nat} (tk : L2.Takes X W) (h : X.N.length = m := by rfl) : L2.Takes X (fun cls d σ H => σ.length = m → W cls d σ H) :=
  fun u s' ⟨a, B, sI, pins, σ, H, cls, d, e, I, nb, up, sky, na, os, ag, w⟩ => tk u s' ⟨a, B, sI, pins, σ, H, cls, d, e, I, nb, up, sky, na, os, ag, w (I.len.trans h)⟩
/-- the abstract meaning of def heard(ask): [what was found], or (.., the error's field) -/
def EAh (B : Addr) (word : Str) (Q : V → Hp → Nat → Prop) : EAK := fun cls d kn n => cls = .ref B ∧ ∃ dd fs y, d = some dd ∧ kn dd = some (.xd fs) ∧ fs.lookup ("part" : Str) = some y ∧
  ∀ q kn2, Ext kn kn2 → kn q = none → kn2 q = some (.tup [.str word, y]) → Q (.ref q) kn2 n
def TTh (B : Addr) (word : Str) : (XK → Hp → VK → Prop) → Hp → VK → Prop := fun tl H Q => ∃ (c : Cw) (kn : Hp) (n : Nat) (QA : V → Hp → Nat → Prop), Good c kn n H ∧ (∀ v kn' n' H', QA v kn' n' → Good c kn' n' H' → Q v H') ∧
  ∀ E, ErrOk c (EAh B word QA) E → W c (fun H' Q' => tl E H' Q') kn n fun v kn1 n1 => ∀ q, kn1 q = none → QA (.ref q) (upd kn1 q (.lst [v])) n1
theorem good_lam {H H1 : Hp} (g : Good (penC p a ns T) kn n H) (e : ExtN H H1) (hT : Tabs T H1) : Good (penC p a ns T) kn n H1 := by
  obtain ⟨⟨⟨i, k, h1, h1'⟩, h2, h3⟩, _⟩ := g.inv
  refine ⟨fun x o hx => e x o (g.ex x o hx) (fun ps z => ?_), ⟨⟨⟨i, k, e _ _ h1 (fun _ z => nomatch z), h1'⟩, e _ _ h2 (fun _ z => nomatch z), h3⟩, hT⟩, g.res, g.nt⟩
  have := g.nt x o hx
  rw [z] at this
  cases this
theorem w_lam {B : Addr} {word : Str} {tt : XK → TE}
    (h : ∀ E, ErrOk (penC p a ns T) (EAh B word Q) E → W (penC p a ns T) (tt E σ) kn n fun v kn1 n1 => ∀ q, kn1 q = none → Q (.ref q) (upd kn1 q (.lst [v])) n1) : W (penC p a ns T) (tLam T (TTh B word) tt σ) kn n Q :=
  fun H g Q' q => ⟨g.inv.2, fun H1 e hT => ⟨penC p a ns T, kn, n, Q, good_lam g e hT, q, h⟩⟩
theorem fin_at {c : Cw} {kn : Hp} {n m : Nat} {P : Hp → Prop} (le : n ≤ m) (f : ∀ H', Good c kn m H' → P H') : ∀ H', Good c kn n H' → P H' := fun H' g => f H' (g.up le)
end
end AW

/-! raise .. from None in a handler; an error with two fields; a classmethod. -/
namespace L2
open PySem PySem.Spec PyProof.Rows
theorem Fun.okH {P : Program} {w : World} {K : PySem.W.Frag} {mg : Str → Option Value} {base : Heap} {x qual : Str} {st : Stmt} {f : Addr} {fd : FuncData} {N ps : List Str} {k : Nat} {sp : Sp} (F : Fun K x qual st f fd) (S : FnScope N ps (defScope st)) (len : ∀ vs H Q E, sp vs H Q E → vs.length = ps.length)
    (hbody : ∀ (cdv : Value) (A : Around) (outer : List Env) (s : Shared) (H : Hp) (vs : List V) (Q : VK) (E : XK) (p : Addr × Obj), L2H.RoomH k (A.deeper (envOfC qual (defScope st) s.heap.objs.size f cdv)) → sp vs H Q E →
      ∃ t, PSs (L2H.cxH CX0 P w K mg base N qual (defScope st) f cdv A outer s H E p) (defBody st) t ∧ t { nx := fun _ H' => Q .non H', rt := Q } (start N vs) H) : L2H.FnH P w K mg base CX0 (k + 1) f fd ps sp := by
  obtain ⟨oc, od, kV, doc, pm, an, cdv, ct, osl, rfl, lk, hcd⟩ := F.ex
  exact L2H.fn_ofH lk hcd S len fun A outer s H vs Q E p hp hr hsp => hbody cdv A outer s H vs Q E p hr hsp
/-- an error class whose __init__ sets two fields -/
def spX2 (K : PySem.W.Frag) (f g : Str) : Sp := fun vs H Q _ => ∃ (a C : Addr) (y z : V), vs = [.ref a, y, z] ∧ OexC K C ∧ PySem.W.findIn K (.ref C) f = some none ∧ PySem.W.findIn K (.ref C) g = some none ∧ H a = some (exo a C none) ∧
  ∀ dx, H dx = none → dx ≠ a → Q .non (upd (upd (upd H dx (exd dx [(f, y)])) a (exo a C (some dx))) dx (exd dx [(g, z), (f, y)]))
theorem x2_end {H : Hp} {a d : Addr} {o1 o2 o3 o4 o5 : HO} (ha : H a = none) (hd : d ≠ a) : upd (del (upd (upd (upd (upd H a o1) d o2) a o3) d o5) a) d o4 = upd H d o4 := by
  funext x
  by_cases h1 : x = d
  · rw [h1, upd_same, upd_same]
  · rw [upd_ne h1, upd_ne h1]
    by_cases h2 : x = a
    · rw [h2, del_same, ha]
    · rw [del_ne h2, upd_ne h1, upd_ne h2, upd_ne h1, upd_ne h2]
end L2
namespace AW
open PySem PySem.Spec PyProof.Rows L2
section
variable {c : Cw} {kn : Hp} {n : Nat} {σ : L2.St} {K : PySem.W.Frag} {D : AE} {E : XK} {EA : EAK}
theorem s_raise2 {C : Addr} {f g : Str} {ta : TA} (oc : OexC K C) (hf : PySem.W.findIn K (.ref C) f = some none) (hg : PySem.W.findIn K (.ref C) g = some none) (hE : ErrOk c EA E)
    (h : W c (ta σ) kn n fun vs kn1 n1 => ∃ y z, vs = [y, z] ∧ ∀ d, kn1 d = none → EA (.ref C) (some d) (upd kn1 d (.xd [(g, z), (f, y)])) n1) :
    WS c (fun _ σ H => tMkO C (spX2 K f g) [] ta σ H fun cls d H' => E cls d H') D σ kn n :=
  fun H g0 D' fit => h H g0 _ fun vs kn1 n1 H1 ⟨y, z, e, h1⟩ g1 => by
    subst e
    refine ⟨Nat.le_add_left 2 998, fun a ha => ⟨a, C, y, z, rfl, oc, hf, hg, upd_same, fun d hd hda => ⟨rfl, d, [(g, z), (f, y)], ?_, upd_same, ?_, ?_⟩⟩⟩
    · rw [upd_ne (Ne.symm hda), upd_same]
    · rw [upd_ne hda] at hd
      exact hd
    · rw [upd_ne hda] at hd
      rw [x2_end ha hda]
      exact hE _ _ _ _ _ (h1 d (g1.free hd)) (g1.new hd)
/-- try .. except C: suite (that ends in another error) -/
theorem s_tryO {cv : Value} {tb : WX → TS} {ts : Addr → Value → Option Addr → TS} {Wout : WX}
    (h : ∀ H (D' : Ends), Good c kn n H → Fits c D D' → tb (wOnly K cv ts Wout D') D' σ H) : WS c (fun D' σ H => tb (wOnly K cv ts Wout D') D' σ H) D σ kn n :=
  fun H g D' fit => h H D' g fit
end
end AW
namespace L2
open PySem PySem.Spec PyProof.Rows ClX
section
variable {X : Cx} {CX : CXT} {k : Nat} {f C p : Addr} {mc : Value} {m : Str} {fd : FuncData} {ps : List Str} {B : List V → Hp → AW.AK → AW.AXK → Prop} {E : XK}
end
end L2

/-! Texts of integers: what is read back is what was written. -/
namespace L2
namespace Tx1
open PySem PySem.NumText TL
/-- the text of an integer -/
abbrev dS (i : Int) : Str := Str.ofString (toString i)
theorem dS_nat (n : Nat) : tl (dS n) = numL n := tl_num n
theorem dS_neg {n : Nat} (h : 0 < n) : tl (dS (-(n : Int))) = 45 :: numL n := by
  obtain ⟨m, rfl⟩ : ∃ m, n = m + 1 := ⟨n - 1, by omega⟩
  have e : (toString (-((m + 1 : Nat) : Int))) = "-" ++ toString (((m + 1 : Nat) : Int)) := by
    have : (-((m + 1 : Nat) : Int)) = Int.negSucc m := by omega
    rw [this]
    rfl
  show tl (Str.ofString (toString (-((m + 1 : Nat) : Int)))) = _
  rw [e, tl_ofString, String.toList_append, List.map_append, ← tl_ofString (toString _)]
  rw [tl_num]
  rfl
theorem dS_cases (i : Int) : (∃ n : Nat, i = n ∧ tl (dS i) = numL n) ∨ (∃ n : Nat, 0 < n ∧ i = -(n : Int) ∧ tl (dS i) = 45 :: numL n) := by
  rcases Int.lt_or_le i 0 with h | h
  · refine .inr ⟨i.natAbs, by omega, by omega, ?_⟩
    have e : i = -((i.natAbs : Nat) : Int) := by omega
    have := dS_neg (n := i.natAbs) (by omega)
    rw [← e] at this
    exact this
  · refine .inl ⟨i.natAbs, by omega, ?_⟩
    have e : i = ((i.natAbs : Nat) : Int) := by omega
    have := dS_nat i.natAbs
    rw [← e] at this
    exact this
theorem numL_no45 (n : Nat) : ¬ 45 ∈ numL n := numL_free (.inl (by decide))
theorem dS_free {c : Nat} (h : c ≠ 45) (h2 : c < 48 ∨ 57 < c) (i : Int) : ¬ c ∈ tl (dS i) := by
  rcases dS_cases i with ⟨n, _, e⟩ | ⟨n, _, _, e⟩ <;> rw [e]
  · exact numL_free h2
  · intro hm
    rcases List.mem_cons.1 hm with hm | hm
    · exact h hm
    · exact numL_free h2 hm
theorem ext_str {a b : Str} (h : tl a = tl b) : a = b := by
  have := congrArg (fun l => ({ cps := l.toArray } : Str)) h
  exact (mk_tl a).symm.trans (this.trans (mk_tl b))
theorem dS_inj {i j : Int} (h : dS i = dS j) : i = j := by
  have h := congrArg tl h
  rcases dS_cases i with ⟨n, rfl, e⟩ | ⟨n, hn, rfl, e⟩ <;> rcases dS_cases j with ⟨m, rfl, e2⟩ | ⟨m, hm, rfl, e2⟩ <;> rw [e, e2] at h
  · rw [numL_inj h]
  · exact absurd (h ▸ List.mem_cons_self) (numL_no45 n)
  · exact absurd (h.symm ▸ List.mem_cons_self) (numL_no45 m)
  · rw [numL_inj (List.cons.inj h).2]
/-- the figures of a text without leading zeros -/
def canon (l : List Nat) : List Nat := match l.dropWhile (· == 48) with
  | [] => [48]
  | c :: r => c :: r
theorem toNat_ofNat {c : Nat} (h : 48 ≤ c ∧ c ≤ 57) : (Char.ofNat c).toNat = c := by
  obtain ⟨h1, h2⟩ := h
  have : ∀ c : Nat, c < 58 → (Char.ofNat c).toNat = c := by decide
  exact this c (by omega)
theorem mem_dropWhile {p : Nat → Bool} {c : Nat} : ∀ {l : List Nat}, c ∈ l.dropWhile p → c ∈ l
  | [], h => h
  | a :: l, h => by
    rw [List.dropWhile_cons] at h
    split at h
    · exact List.mem_cons_of_mem _ (mem_dropWhile h)
    · exact h
theorem numL_val_canon {l : List Nat} (h : AllDigits l) : numL (digitsVal l) = canon l := by
  unfold numL canon
  rw [toDigits_all l h]
  have hd : ∀ c ∈ l.dropWhile (· == 48), 48 ≤ c ∧ c ≤ 57 := fun c hc => h c (mem_dropWhile hc)
  revert hd
  generalize l.dropWhile (· == 48) = d
  intro hd
  cases d with
  | nil => rfl
  | cons c r =>
    show List.map Char.toNat (List.map Char.ofNat (c :: r)) = c :: r
    rw [List.map_map]
    exact (List.map_congr_left (fun a ha => toNat_ofNat (hd a ha))).trans (List.map_id _)
theorem len_dropWhile_le {p : Nat → Bool} : ∀ l : List Nat, (l.dropWhile p).length ≤ l.length
  | [] => Nat.le_refl _
  | a :: l => by
    rw [List.dropWhile_cons]
    split
    · have := len_dropWhile_le (p := p) l
      simp only [List.length_cons]
      omega
    · exact Nat.le_refl _
theorem canon_eq {l : List Nat} (hne : l ≠ []) : canon l = l ↔ (l = [48] ∨ l.head? ≠ some 48) := by
  cases l with
  | nil => exact absurd rfl hne
  | cons a r =>
    by_cases ha : a = 48
    · subst ha
      constructor
      · intro h
        left
        unfold canon at h
        rw [List.dropWhile_cons] at h
        simp only [BEq.rfl, if_true] at h
        have hl := len_dropWhile_le (p := (· == 48)) r
        revert h
        generalize hd : r.dropWhile (· == 48) = d
        rw [hd] at hl
        intro h
        cases d with
        | nil => exact h.symm
        | cons c t =>
          exfalso
          have := congrArg List.length h
          simp only [List.length_cons] at this hl
          omega
      · rintro (h | h)
        · rw [h]; rfl
        · exact absurd rfl h
    · constructor
      · intro _
        right
        simpa using ha
      · intro _
        unfold canon
        rw [List.dropWhile_cons]
        have : (a == 48) = false := by simpa using ha
        simp [this]
theorem val_lt : ∀ (k : Nat) (l : List Nat), AllDigits l → l.length ≤ k → digitsVal l < 10 ^ k := by
  intro k
  induction k with
  | zero =>
    intro l h hl
    have : l = [] := List.length_eq_zero_iff.1 (by omega)
    subst this
    decide
  | succ k ih =>
    intro l h hl
    rcases List.eq_nil_or_concat l with rfl | ⟨r, c, rfl⟩
    · show 0 < _
      exact Nat.pos_of_ne_zero (by simp)
    · rw [List.concat_eq_append] at h hl ⊢
      have hr := ih r (fun x hx => h x (List.mem_append_left _ hx)) (by simp at hl; omega)
      have hc := h c (List.mem_append_right _ (List.mem_singleton.2 rfl))
      rw [digitsVal_snoc]
      have : 10 ^ (k + 1) = 10 ^ k * 10 := rfl
      omega
end Tx1
end L2

namespace L2
namespace Tx1
open PySem PySem.NumText TL SX
abbrev minusS : Str := S [45]
abbrev plusS : Str := S [43]
theorem subAt_hd (w : Str) (c : Nat) : (decide (0 + (S [c]).length ≤ w.length) && Builtin.Str.subAt w (S [c]) 0) = decide ((tl w).head? = some c) := by
  unfold Builtin.Str.subAt
  have e1 : (S [c]).length = 1 := rfl
  rw [e1]
  obtain ⟨⟨l⟩⟩ := w
  cases l with
  | nil => simp [tl, Str.length]
  | cons a r =>
    simp only [Str.length, tl]
    by_cases h : a = c
    · subst h
      simp [S]
    · simp [S, h]
theorem rp_tl (w : Str) : tl (Txt.removeprefix w minusS) = if (tl w).head? = some 45 then (tl w).drop 1 else tl w := by
  rw [StrLaws.removeprefix_eq, subAt_hd]
  by_cases h : (tl w).head? = some 45
  · simp only [h, decide_true, if_true]
    show List.take _ _ = _
    have e1 : minusS.length = 1 := rfl
    rw [e1]
    apply List.take_of_length_le
    simp [Str.length]
  · simp [h]
theorem dec128 : ∀ c : Nat, c < 128 → Unicode.isDecimal c = (decide (48 ≤ c) && decide (c ≤ 57)) := by decide +kernel
theorem decimal_iff {d : Str} (ha : ∀ c ∈ tl d, c < 128) : Txt.isdecimal d = true ↔ tl d ≠ [] ∧ AllDigits (tl d) := by
  unfold Txt.isdecimal
  obtain ⟨⟨l⟩⟩ := d
  simp only [tl, Str.length] at *
  constructor
  · intro h
    simp at h
    refine ⟨by intro e; subst e; simp at h, fun c hc => ?_⟩
    have := h.2 c hc
    rw [dec128 c (ha c hc)] at this
    simpa using this
  · rintro ⟨h1, h2⟩
    simp
    refine ⟨by cases l with | nil => exact absurd rfl h1 | cons => simp, fun c hc => ?_⟩
    rw [dec128 c (ha c hc)]
    simpa using h2 c hc
/-- the text w is that of the integer n, of twelve figures at most -/
def isN (w : Str) (n : Int) : Prop := w = dS n ∧ n.natAbs < 10 ^ 12
theorem isN_uni {w : Str} {n m : Int} (h : isN w n) (g : isN w m) : n = m := dS_inj (h.1.symm.trans g.1)
theorem ascii_dS (i : Int) : ∀ c ∈ tl (dS i), c < 128 := by
  intro c hc
  rcases dS_cases i with ⟨n, _, e⟩ | ⟨n, _, _, e⟩ <;> rw [e] at hc
  · have := numL_digits n c hc
    omega
  · rcases List.mem_cons.1 hc with rfl | hc
    · decide
    · have := numL_digits n c hc
      omega
theorem head_numL (n : Nat) : (numL n).head? ≠ some 45 := by
  intro h
  exact numL_no45 n (List.mem_of_head? h)
theorem rp_dS {n : Int} : tl (Txt.removeprefix (dS n) minusS) = numL n.natAbs := by
  rw [rp_tl]
  rcases dS_cases n with ⟨m, rfl, e⟩ | ⟨m, hm, rfl, e⟩ <;> rw [e]
  · rw [if_neg (head_numL m)]
    rfl
  · rw [if_pos (show (45 :: numL m).head? = some 45 from rfl)]
    show numL m = _
    congr 1
    omega
theorem rn_no {w : Str} (h : 12 < (Txt.removeprefix w minusS).length ∨ Txt.isdecimal (Txt.removeprefix w minusS) = false) (n : Int) : ¬ isN w n := by
  rintro ⟨rfl, hn⟩
  have hl : (numL n.natAbs).length ≤ 12 := numL_len (by decide) hn
  have e := @rp_dS n
  rcases h with h | h
  · have : (Txt.removeprefix (dS n) minusS).length = (tl (Txt.removeprefix (dS n) minusS)).length := (len_tl _).symm ▸ rfl
    rw [this, e] at h
    omega
  · have : Txt.isdecimal (Txt.removeprefix (dS n) minusS) = true := (decimal_iff (by rw [e]; intro c hc; have := numL_digits _ c hc; omega)).2 (by rw [e]; exact ⟨numL_ne _, numL_digits _⟩)
    rw [h] at this
    exact absurd this (by decide)
theorem lenT (w : Str) : w.length = (tl w).length := by simp [Str.length, tl]
theorem int_dS {n : Int} (hn : n.natAbs < 10 ^ 12) : intText? (dS n) = some n := by
  have hl : (numL n.natAbs).length ≤ 12 := numL_len (by decide) hn
  rcases dS_cases n with ⟨m, rfl, e⟩ | ⟨m, hm, rfl, e⟩
  · exact int_num (by have : (m : Int).natAbs = m := by omega
                      rw [this] at hl; omega)
  · have : (-(m : Int)).natAbs = m := by omega
    rw [this] at hl
    rw [intText_neg e (numL_digits m) (numL_ne m) (by rw [lenT, e]; simp only [List.length_cons]; omega), numL_val]
theorem rn_yes {w : Str} (ha : ∀ c ∈ tl w, c < 128) (hl : (Txt.removeprefix w minusS).length ≤ 12) (hd : Txt.isdecimal (Txt.removeprefix w minusS) = true) : ∃ n, intText? w = some n ∧ n.natAbs < 10 ^ 12 ∧ w.length ≤ 13 ∧ (∀ m, isN w m → m = n) := by
  have e := rp_tl w
  rw [lenT] at hl
  have hd := (decimal_iff (by
    rw [e]
    split
    · exact fun c hc => ha c (List.mem_of_mem_drop hc)
    · exact ha)).1 hd
  revert hl hd
  rw [e]
  by_cases h : (tl w).head? = some 45
  · rw [if_pos h]
    obtain ⟨r, hr⟩ : ∃ r, tl w = 45 :: r := by
      cases hw : tl w with
      | nil => rw [hw] at h; exact absurd h (by decide)
      | cons a r => rw [hw] at h; exact ⟨r, by rw [Option.some.inj h]⟩
    rw [hr]
    simp only [List.drop_succ_cons, List.drop_zero]
    rintro hl ⟨h1, h2⟩
    have hi := intText_neg (x := w) hr h2 h1 (by rw [lenT, hr]; simp only [List.length_cons]; omega)
    refine ⟨_, hi, ?_, by rw [lenT, hr]; simp only [List.length_cons]; omega, fun m hm => ?_⟩
    · have := val_lt 12 r h2 hl
      omega
    · rw [hm.1, int_dS hm.2] at hi
      exact Option.some.inj hi
  · rw [if_neg h]
    rintro hl ⟨h1, h2⟩
    have hi : intText? w = some ((digitsVal (tl w) : Nat) : Int) := intText_digits (x := w) h2 h1 (by rw [lenT]; omega)
    refine ⟨_, hi, ?_, by rw [lenT]; omega, fun m hm => ?_⟩
    · have := val_lt 12 _ h2 hl
      omega
    · have h3 := int_dS hm.2
      rw [← hm.1, hi] at h3
      exact (Option.some.inj h3).symm
/-- the text w is that of a number from 0 on of k figures at most -/
def isC (k : Nat) (w : Str) : Prop := ∃ n : Nat, n < 10 ^ k ∧ w = dS n
theorem cnt_yes {k : Nat} {w : Str} (hd : AllDigits (tl w)) (hne : tl w ≠ []) (hl : w.length ≤ k) (h : tl w = [48] ∨ (tl w).head? ≠ some 48) : isC k w := by
  refine ⟨digitsVal (tl w), val_lt k _ hd (by rw [← lenT]; exact hl), ext_str ?_⟩
  rw [dS_nat, numL_val_canon hd]
  exact ((canon_eq hne).2 h).symm
theorem cnt_no {k : Nat} {w : Str} (hk : 0 < k) (h : isC k w) : AllDigits (tl w) ∧ tl w ≠ [] ∧ w.length ≤ k ∧ (tl w = [48] ∨ (tl w).head? ≠ some 48) := by
  obtain ⟨n, hn, rfl⟩ := h
  rw [lenT, dS_nat]
  refine ⟨numL_digits n, numL_ne n, numL_len hk hn, (canon_eq (numL_ne n)).1 ?_⟩
  rw [← numL_val_canon (numL_digits n), numL_val]
/-- the law's bare text of head -/
def bareOf (h : Str) : Str := if (tl h).head? = some 45 then S ((tl h).drop 1) else h
theorem isN_bare {h : Str} : (isC 12 (bareOf h) ∧ h ≠ S [45, 48]) ↔ ∃ f, isN h f := by
  unfold bareOf
  constructor
  · rintro ⟨⟨n, hn, e⟩, h0⟩
    by_cases hh : (tl h).head? = some 45
    · rw [if_pos hh] at e
      obtain ⟨r, hr⟩ : ∃ r, tl h = 45 :: r := by
        cases hw : tl h with
        | nil => rw [hw] at hh; exact absurd hh (by decide)
        | cons a r => rw [hw] at hh; exact ⟨r, by rw [Option.some.inj hh]⟩
      rw [hr] at e
      have e2 : r = numL n := by
        have := congrArg tl e
        rw [dS_nat] at this
        exact this
      have n0 : 0 < n := by
        apply Nat.pos_of_ne_zero
        rintro rfl
        apply h0
        apply ext_str
        rw [hr, e2]
        rfl
      refine ⟨-(n : Int), ext_str ?_, by omega⟩
      rw [dS_neg n0, hr, e2]
    · rw [if_neg hh] at e
      exact ⟨n, e, by omega⟩
  · rintro ⟨f, rfl, hf⟩
    rcases dS_cases f with ⟨m, rfl, e⟩ | ⟨m, hm, rfl, e⟩
    · rw [if_neg (by rw [e]; exact head_numL m)]
      refine ⟨⟨m, by omega, rfl⟩, fun hx => ?_⟩
      have := congrArg tl hx
      rw [e] at this
      exact numL_no45 m (this ▸ List.mem_cons_self)
    · rw [if_pos (by rw [e]; rfl), e]
      refine ⟨⟨m, by omega, ext_str (by rw [dS_nat]; rfl)⟩, fun hx => ?_⟩
      have := congrArg tl hx
      rw [e] at this
      have h2 := (List.cons.inj this).2
      have : digitsVal (numL m) = digitsVal [48] := by rw [h2]
      rw [numL_val] at this
      have z : digitsVal [48] = 0 := rfl
      omega
end Tx1
end L2

namespace L2
namespace Tx1
open PySem PySem.NumText TL SX
/-- what a text of a stay tells -/
def okT (f n : Int) : Prop := f.natAbs < 10 ^ 12 ∧ 1 ≤ n ∧ n ≤ 400 ∧ f + n < 10 ^ 12
def txt (f n : Int) : Str := dS f ++ plusS ++ dS n
def isT (x : Str) : Prop := ∃ f n, okT f n ∧ x = txt f n
theorem plus_free (i : Int) : ¬ 43 ∈ tl (dS i) := dS_free (by decide) (by decide) i
theorem tl_txt (f n : Int) : tl (txt f n) = tl (dS f) ++ 43 :: tl (dS n) := by
  unfold txt
  rw [tl_append, tl_append]
  show _ ++ [43] ++ _ = _
  rw [List.append_assoc]
  rfl
theorem kind_plus (x : Str) : ¬ Builtin.Str.strKind x < Builtin.Str.strKind plusS := by
  have : Builtin.Str.strKind plusS = 1 := by decide +kernel
  rw [this]
  unfold Builtin.Str.strKind
  split
  · decide
  · split <;> decide
theorem split_txt (f n : Int) : Txt.split (txt f n) plusS = [dS f, dS n] := by
  apply map_tl_inj
  rw [split_spl _ _ (by decide) (kind_plus _), tl_txt]
  show spl [43] 0 [] _ = _
  have h := spl_part1 (s := 43) (S := []) (p := tl (dS f)) (rest := tl (dS n)) (acc := []) (plus_free f)
  simp only [List.singleton_append, List.nil_append] at h
  rw [h, spl_last1 (plus_free n)]
  rfl
theorem split_two {x a b : Str} (h : Txt.split x plusS = [a, b]) : x = a ++ plusS ++ b := by
  have := StrLaws.join_split x plusS
  rw [h, ← StrLaws.glued_eq_join] at this
  rw [← this]
  apply ext_str
  show (Builtin.Str.glued _ _).cps.toList = _
  rw [StrLaws.glued_list]
  rw [tl_append, tl_append]
  simp [StrLaws.glueT, StrLaws.glueL, tl]
theorem part_txt (f n : Int) : Txt.partition (txt f n) plusS = (dS f, plusS, dS n) := partition_app (s := 43) (S := []) rfl (plus_free f)
theorem part_cases (x : Str) : (¬ 43 ∈ tl x ∧ Txt.partition x plusS = (x, Str.empty, Str.empty)) ∨ (∃ h t, x = h ++ plusS ++ t ∧ Txt.partition x plusS = (h, plusS, t)) := by
  by_cases hx : 43 ∈ tl x
  · right
    obtain ⟨p, q, hp, hpq⟩ : ∃ p q, ¬ 43 ∈ p ∧ tl x = p ++ 43 :: q := by
      revert hx
      generalize tl x = l
      intro hx
      induction l with
      | nil => exact absurd hx (by simp)
      | cons a r ih =>
        by_cases ha : a = 43
        · exact ⟨[], r, by simp, by rw [ha]; rfl⟩
        · have hr : 43 ∈ r := by
            rcases List.mem_cons.1 hx with h | h
            · exact absurd h.symm ha
            · exact h
          obtain ⟨p, q, h1, h2⟩ := ih hr
          refine ⟨a :: p, q, ?_, by rw [h2]; rfl⟩
          intro hm
          rcases List.mem_cons.1 hm with h | h
          · exact ha h.symm
          · exact h1 h
    refine ⟨S p, S q, ext_str ?_, ?_⟩
    · rw [tl_append, tl_append, hpq]
      show _ = p ++ [43] ++ q
      rw [List.append_assoc]
      rfl
    · have e : x = S p ++ plusS ++ S q := ext_str (by
        rw [tl_append, tl_append, hpq]
        show _ = p ++ [43] ++ q
        rw [List.append_assoc]
        rfl)
      rw [e]
      exact partition_app (s := 43) (S := []) rfl hp
  · exact .inl ⟨hx, partition_none (s := 43) (S := []) rfl hx⟩
/-- the law's own look: what partition tells of the text -/
theorem isT_part (x : Str) : isT x ↔ ((Txt.partition x plusS).2.1 ≠ Str.empty ∧ ∃ f n, isN (Txt.partition x plusS).1 f ∧ (Txt.partition x plusS).2.2 = dS n ∧ okT f n) := by
  constructor
  · rintro ⟨f, n, ok, rfl⟩
    rw [part_txt]
    refine ⟨?_, f, n, ⟨rfl, ok.1⟩, rfl, ok⟩
    show plusS ≠ Str.empty
    decide
  · rcases part_cases x with ⟨hx, e⟩ | ⟨h, t, rfl, e⟩ <;> rw [e]
    · rintro ⟨h, _⟩
      exact absurd rfl h
    · rintro ⟨_, f, n, ⟨h1, _⟩, h2, ok⟩
      exact ⟨f, n, ok, by rw [show h = dS f from h1, show t = dS n from h2]; rfl⟩
theorem isT_split {x : Str} {a b : Str} {f n : Int} (h : Txt.split x plusS = [a, b]) (ha : isN a f) (hb : isN b n) : x = txt f n := by
  rw [split_two h, ha.1, hb.1]
  rfl
theorem txt_inj {f n g m : Int} (h : txt f n = txt g m) : f = g ∧ n = m := by
  have h := congrArg (fun x => Txt.split x plusS) h
  simp only [split_txt] at h
  exact ⟨dS_inj (List.cons.inj h).1, dS_inj (List.cons.inj (List.cons.inj h).2).1⟩
end Tx1
end L2

/-! Words of texts. -/
namespace L2
open PySem PySem.Spec PyProof.Rows Tx1
section
variable {X : Cx}
def rMRp : V → List V → Hp → VK → Prop := fun x xs H Q => ∃ a b, x = .str a ∧ xs = [.str b] ∧ a.length ≤ sizeLine ∧ Q (.str (Txt.removeprefix a b)) H
theorem m_rp : MtR X "str.removeprefix" rMRp := mt_removeprefix
def rMDec : V → List V → Hp → VK → Prop := fun x xs H Q => ∃ a, x = .str a ∧ xs = [] ∧ True ∧ Q (.bl (Txt.isdecimal a)) H
theorem m_dec : MtR X "str.isdecimal" rMDec := mt_isdecimal
def rLenS : List V → Hp → VK → Prop := fun xs H Q => ∃ a, xs = [.str a] ∧ a.length ≤ sizeLine ∧ Q (.int a.length) H
theorem c_lenS : CallR X (.builtin "len") rLenS := by
  intro pins s σ H xs us Q I r ⟨a, e, hl, q⟩
  exact call_len pins s σ H xs us Q I r ⟨.str a, a.length, e, ⟨hl, rfl⟩, q⟩
def rIntS : List V → Hp → VK → Prop := fun xs H Q => ∃ a n, xs = [.str a] ∧ intText? a = some n ∧ a.length ≤ 640 ∧ Q (.int n) H
theorem c_intS : CallR X (.type "int") rIntS := call_int_str
def rAddT : R2 := fun x y H Q => ∃ i j, x = .str i ∧ y = .str j ∧ i.length + j.length ≤ sizeLine ∧ Q (.str (i ++ j)) H
theorem op_addT : OpR X (binaryOp .Add) rAddT := op_add_str
def rNotInT : R2 := fun x y H Q => ∃ i j, x = .str i ∧ y = .str j ∧ Q (.bl !!(Builtin.Str.occurrences j i 0 j.length 1).isEmpty) H
theorem op_notInT : OpR X (compareOp .NotIn) rNotInT := op_notIn_str
def rMSplit : V → List V → Hp → VK → Prop := fun x xs H Q => ∃ a b, x = .str a ∧ xs = [.str b] ∧ (b.length == 0) = false ∧ a.length + 2 ≤ sizeLine ∧ rNewStrs (Txt.split a b) H Q
def rMPart : V → List V → Hp → VK → Prop := fun x xs H Q => ∃ a b, x = .str a ∧ xs = [.str b] ∧ (b.length == 0) = false ∧ a.length ≤ sizeLine ∧ ∀ p : Addr, H p = none → Q (.ref p) (upd H p (.tup [.str (Txt.partition a b).1, .str (Txt.partition a b).2.1, .str (Txt.partition a b).2.2]))
variable {o e : Expr} {to te : TE} {apos pos : Pos}
theorem pe_splitQ (ho : PE X o to) (he : PE X e te) (hs : starEach [e] X.env = [(false, eval e X.env)] := by rfl) (hb : attributeBase o "split" X.env (eval o X.env) = eval o X.env := by rfl) (hp : (apos.endLine == pos.line) = true := by rfl) :
    PE X (.Call (.Attribute o "split" apos) [e] [] pos) (tM1 rMSplit to te) := pe_split ho he hs hb hp
theorem pe_partQ (ho : PE X o to) (he : PE X e te) (hs : starEach [e] X.env = [(false, eval e X.env)] := by rfl) (hb : attributeBase o "partition" X.env (eval o X.env) = eval o X.env := by rfl) (hp : (apos.endLine == pos.line) = true := by rfl) :
    PE X (.Call (.Attribute o "partition" apos) [e] [] pos) (tM1 rMPart to te) := pe_partition ho he hs hb hp
def rIxZ : R2 := fun x y H Q => ∃ z i c, x = .str z ∧ y = .int i ∧ 0 ≤ i ∧ i < 2 ^ 63 ∧ i < ↑z.length ∧ z.cps[i.toNat]? = some c ∧ Q (.str { cps := #[c] }) H
theorem pe_itemZ {a b : Expr} {ta tb : TE} (ha : PE X a ta) (hb : PE X b tb) (hp : PlainIxT b) : PE X (.Subscript a b pos) (tOp rIxZ ta tb) := pe_item_str ha hb hp
end
end L2
namespace AW
open PySem PySem.Spec PyProof.Rows L2 ClX Tx1
section
variable {c : Cw} {kn : Hp} {n : Nat} {σ : L2.St} {K : PySem.W.Frag} {Q : V → Hp → Nat → Prop} {E : XK} {EA : EAK} {B : List V → Hp → AK → AXK → Prop}
theorem sz {m : Nat} (h : m ≤ 100000) : m ≤ sizeLine := Nat.le_trans h (by rw [sizeLine_eq]; decide)
theorem w_bmS {r : V → List V → Hp → VK → Prop} {to : TE} {t : TA} (h : W c (to σ) kn n fun x kn1 n1 => (∃ a, x = .str a) ∧ W c (t σ) kn1 n1 fun xs kn2 n2 => W c (r x xs) kn2 n2 Q) : W c (tBM K "str" r to t σ) kn n Q :=
  fun H g Q' q => h H g _ fun x kn1 n1 H1 ⟨⟨a, e⟩, h1⟩ g1 => ⟨by subst e; exact rfl, h1 H1 g1 _ fun xs kn2 n2 H2 h2 g2 => h2 H2 g2 Q' q⟩
theorem w_bmS0 {r : V → List V → Hp → VK → Prop} {to : TE} (h : W c (to σ) kn n fun x kn1 n1 => (∃ a, x = .str a) ∧ W c (r x []) kn1 n1 Q) : W c (tBM0 K "str" r to σ) kn n Q :=
  fun H g Q' q => h H g _ fun x kn1 n1 H1 ⟨⟨a, e⟩, h1⟩ g1 => ⟨by subst e; exact rfl, h1 H1 g1 Q' q⟩
theorem w_m1 {r : V → List V → Hp → VK → Prop} {to te : TE} (h : W c (to σ) kn n fun x kn1 n1 => (∃ a, x = .str a) ∧ W c (te σ) kn1 n1 fun y kn2 n2 => W c (r x [y]) kn2 n2 Q) : W c (tM1 r to te σ) kn n Q :=
  fun H g Q' q => h H g _ fun x kn1 n1 H1 ⟨e, h1⟩ g1 => ⟨e, h1 H1 g1 _ fun xs kn2 n2 H2 h2 g2 => h2 H2 g2 Q' q⟩
theorem r_rp {a b : Str} (hl : a.length ≤ 100000) (q : Q (.str (Txt.removeprefix a b)) kn n) : W c (rMRp (.str a) [.str b]) kn n Q := fun H g _ k => ⟨a, b, rfl, rfl, sz hl, k _ kn n H q g⟩
theorem r_dec {a : Str} (q : Q (.bl (Txt.isdecimal a)) kn n) : W c (rMDec (.str a) []) kn n Q := fun H g _ k => ⟨a, rfl, rfl, trivial, k _ kn n H q g⟩
theorem r_lenS {a : Str} (hl : a.length ≤ 100000) (q : Q (.int a.length) kn n) : W c (rLenS [.str a]) kn n Q := fun H g _ k => ⟨a, rfl, sz hl, k _ kn n H q g⟩
theorem r_intS {a : Str} {i : Int} (hi : intText? a = some i) (hl : a.length ≤ 640) (q : Q (.int i) kn n) : W c (rIntS [.str a]) kn n Q := fun H g _ k => ⟨a, i, rfl, hi, hl, k _ kn n H q g⟩
theorem r_addT {a b : Str} (hl : a.length + b.length ≤ 100000) (q : Q (.str (a ++ b)) kn n) : W c (rAddT (.str a) (.str b)) kn n Q := fun H g _ k => ⟨a, b, rfl, rfl, sz hl, k _ kn n H q g⟩
theorem r_notInT {a b : Str} (q : Q (.bl !!(Builtin.Str.occurrences b a 0 b.length 1).isEmpty) kn n) : W c (rNotInT (.str a) (.str b)) kn n Q := fun H g _ k => ⟨a, b, rfl, rfl, k _ kn n H q g⟩
theorem r_split {a b : Str} (hb : (b.length == 0) = false) (hl : a.length + 2 ≤ 100000) (q : ∀ p, kn p = none → Q (.ref p) (upd kn p (.lst ((Txt.split a b).map V.str))) n) : W c (rMSplit (.str a) [.str b]) kn n Q :=
  fun H g _ k => ⟨a, b, rfl, rfl, hb, sz hl, fun p hp => k _ _ n _ (q p (g.free hp)) (g.new hp)⟩
theorem r_part {a b : Str} (hb : (b.length == 0) = false) (hl : a.length ≤ 100000) (q : ∀ p, kn p = none → Q (.ref p) (upd kn p (.tup [.str (Txt.partition a b).1, .str (Txt.partition a b).2.1, .str (Txt.partition a b).2.2])) n) : W c (rMPart (.str a) [.str b]) kn n Q :=
  fun H g _ k => ⟨a, b, rfl, rfl, hb, sz hl, fun p hp => k _ _ n _ (q p (g.free hp)) (g.new hp)⟩
theorem r_ixZ {z : Str} {i : Int} {d : Nat} (h0 : 0 ≤ i) (h1 : i < 2 ^ 63) (h2 : i < z.length) (h3 : z.cps[i.toNat]? = some d) (q : Q (.str { cps := #[d] }) kn n) : W c (rIxZ (.str z) (.int i)) kn n Q := fun H g _ k => ⟨z, i, d, rfl, rfl, h0, h1, h2, h3, k _ kn n H q g⟩
theorem r_slS {z : Str} {lo hi : Option Int} (hl : z.length ≤ 100000) (q : Q (.str (cutS z lo hi)) kn n) : W c (rSlS (.str z) lo hi) kn n Q := fun H g _ k => ⟨z, rfl, sz hl, k _ kn n H q g⟩
/-- a classmethod -/
theorem w_cmeth {C : Addr} {ta : TE} {t : TA} (hm : MonoX B) (hE : ErrOk c EA E) (h : W c (ta σ) kn n fun x kn1 n1 => x = .ref C ∧ W c (t σ) kn1 n1 fun vs kn2 n2 => B (.ref C :: vs) kn2 (fun v k => Q v k n2) (fun cls d k => EA cls d k n2)) : W c (tCMeth C (liftX B) E ta t σ) kn n Q :=
  fun H g Q' q => h H g _ fun x kn1 n1 H1 ⟨e, h1⟩ g1 => ⟨e, h1 H1 g1 _ fun vs kn2 n2 H2 h2 g2 => sp_call hm hE h2 H2 g2 Q' q⟩
def chr1 (d : Nat) : V := .str { cps := #[d] }
theorem gives_str {a : Str} : Gives (Its a) ((TL.tl a).map chr1) fun _ => True := fun kn H e h =>
  ⟨fun i hi => by show i < a.cps.size; simpa [TL.tl] using hi, fun i hi => by show a.cps.size ≤ i; simpa [TL.tl] using hi, fun i x H' y => ⟨y.1, fun hi => by
    obtain ⟨_, d, hd, rfl⟩ := y
    rw [List.getElem?_map]
    have : (TL.tl a)[i]? = some d := by simpa [TL.tl] using hd
    rw [this]
    rfl⟩⟩
theorem i_str {te : TE} {R : It → Hp → Nat → Prop} (h : W c (te σ) kn n fun x kn1 n1 => ∃ z, x = .str z ∧ R (Its z) kn1 n1) : WI c (iStr te σ) kn n R :=
  fun H g R' q => h H g _ fun x kn1 n1 H1 ⟨z, e, hr⟩ g1 => ⟨z, e, q _ _ _ _ hr g1⟩
end
end AW

/-! Lists or tuples, also those of the written part; join, stars, lists repeated, steps of slices; what is never reached. -/
namespace L2
open PySem PySem.Spec PyProof.Rows ClX
section
variable {X : Cx}
/-- what no run comes to -/

theorem pe_never {e : Expr} : PE X e (fun _ _ _ => False) := ⟨fun _ _ _ _ _ _ h => h.elim⟩
def rRepQ : R2 := fun x y H Q => ∃ l k xs, x = .ref l ∧ y = .int k ∧ H l = some (.lst xs) ∧ -(2 ^ 63) ≤ k ∧ k < 2 ^ 63 ∧ xs.length * k.toNat ≤ sizeLine ∧ ∀ p, H p = none → Q (.ref p) (upd H p (.lst (List.replicate k.toNat xs).flatten))
theorem op_repQ : OpR X (binaryOp .Mult) rRepQ := op_rep
def rTupQ (K : PySem.W.Frag) : List V → Hp → VK → Prop := fun xs H Q => ∃ p ys, xs = [.ref p] ∧ ((SqL K H p ys ∧ ∀ l, H l = none → Q (.ref l) (upd H l (.tup ys))) ∨ (SqT K H p ys ∧ Q (.ref p) H))
theorem c_tupQ : CallR X (.type "tuple") (rTupQ X.K) := call_tuple_of
def rJoinQ (K : PySem.W.Frag) : V → List V → Hp → VK → Prop := fun x xs H Q => ∃ a p, ∃ ys : List Str, x = .str a ∧ xs = [.ref p] ∧ (SqL K H p (ys.map V.str) ∨ SqT K H p (ys.map V.str)) ∧ (ys.map (·.length)).sum + ys.length * a.length ≤ 16777216 ∧ Q (.str (Txt.join a ys)) H
theorem pe_joinQ {o e : Expr} {to te : TE} {apos pos : Pos} (ho : PE X o to) (he : PE X e te) (hs : starEach [e] X.env = [(false, eval e X.env)] := by rfl) (hb : attributeBase o "join" X.env (eval o X.env) = eval o X.env := by rfl) (hp : (apos.endLine == pos.line) = true := by rfl) :
    PE X (.Call (.Attribute o "join" apos) [e] [] pos) (tM1 (rJoinQ X.K) to te) := pe_join ho he hs hb hp
/-- the truth of a list or a tuple -/
def tTru (K : PySem.W.Frag) (ta : TE) : TT := fun σ H Q => ta σ H fun x H' => ∃ k, TruV K x H' k ∧ Q k H'
theorem pt_truthQ {a : Expr} {ta : TE} (ha : PE X a ta) (he : ∀ whole, isTrue a X.env whole = (do let v ← whole; standAt a.pos; holding [v] (truthy v))) : PT X a (tTru X.K ta) := pt_truth ha he
/-- the items at a + k, a + 2 k, .. -/
def pick3 {α : Type} (xs : List α) (lo hi st : Option Int) : List α := (sliceRange (sliceBounds lo hi st xs.length).1 (sliceBounds lo hi st xs.length).2.1 (sliceBounds lo hi st xs.length).2.2).filterMap (xs[·]?)
theorem vals_pick {xs : List V} {us : List Value} (r : Vals xs us) : ∀ is : List Nat, Vals (is.filterMap (xs[·]?)) (is.filterMap (us[·]?))
  | [] => .nil
  | i :: is => by
    rw [List.filterMap_cons, List.filterMap_cons]
    cases h : xs[i]? with
    | none => rw [r.none_of h]; exact vals_pick r is
    | some x =>
      obtain ⟨u, hu, ru⟩ := r.get h
      rw [hu]
      exact .cons ru (vals_pick r is)
theorem vals_pick3 {xs : List V} {us : List Value} (r : Vals xs us) (lo hi st : Option Int) : Vals (pick3 xs lo hi st) (slicePick us.toArray lo hi st).toList := by
  have e : (slicePick us.toArray lo hi st).toList = pick3 us lo hi st := by
    unfold slicePick pick3
    simp
  rw [e]
  unfold pick3
  rw [r.length]
  exact vals_pick r _
def tSl3 (K : PySem.W.Frag) (te : TE) (tl th : TO) (k : Int) : TE := fun σ H Q => te σ H fun x H1 => tl σ H1 fun l H2 => th σ H2 fun u H3 => ∃ a xs, x = .ref a ∧ SqL K H3 a xs ∧ ∀ p, H3 p = none → Q (.ref p) (upd H3 p (.lst (pick3 xs l u (some k))))
theorem pe_sl3 {e : Expr} {te : TE} {lo hi : Option Expr} {tl th : TO} {k : Int} {j : Nat} {p1 p2 pos : Pos} (hk : k ≠ 0) (he : PE X e te) (hl : PO X lo tl) (hu : PO X hi th) (hst : PO X (some (.Constant (.int k) j p1)) (tPart (tC (.int k)))) :
    PE X (.Subscript e (.Slice lo hi (some (.Constant (.int k) j p1)) p2) pos) (tSl3 X.K te tl th k) := by
  refine ⟨fun pins s σ H Q I h => ?_⟩
  refine Subscript_ (thn (he.run pins s σ H _ I h) fun v s1 ⟨x, H1, I1, r1, q1⟩ => ?_)
  refine wpAny_Slice (thn (hl.run pins s1 σ H1 _ I1 q1) fun vl s2 ⟨l, H2, I2, pl, q2⟩ => thn (hu.run pins s2 σ H2 _ I2 q2) fun vu s3 ⟨u, H3, I3, pu, q3⟩ => ?_)
  refine thn (hst.run pins s3 σ H3 (fun o H4 => o = some k ∧ H4 = H3) I3 ⟨k, rfl, rfl, rfl⟩) fun vs s4 ⟨o, H4, I4, ps, eo, e4⟩ => ?_
  subst eo e4
  obtain ⟨a, xs, ex, hx, q⟩ := q3
  subst ex
  cases r1
  have I5 : Inv X pins σ H4 { s4 with heap := s4.heap.push { cls := .type "slice", data := .fields #[vl, vu, vs] } } := I4.kept (t' := s4.toks) fun b ob q => Heap.get?_push_of_some _ q
  obtain ⟨its, r, ht, hz⟩ := I5.list hx
  have hlen := r.length
  show wpAny (model X.prog X.w) X.A (subscriptTail e (.Slice lo hi (some (.Constant (.int k) j p1)) p2) (.ref a) (.ref s4.heap.objs.size)) (EP X pins σ Q) X.xe { s4 with heap := s4.heap.push { cls := .type "slice", data := .fields #[vl, vu, vs] } }
  refine tail_any (ops := [.ref a, .ref s4.heap.objs.size]) ht.isList.typeIs (PySem.slot_list_getitem.lookup) ?_ (by with_unfolding_all rfl)
  have hz2 : its.toArray.size ≤ sizeLine := by rw [List.size_toArray]; omega
  refine wpAny_getItem_list_slice ht.isList (Heap.IsSliceOf.new _ vl vu vs) pl pu ps (fun z => hk (Option.some.inj z)) ?_ hz2
  refine ⟨.ref _, _, I5.laid (t' := s4.toks) (o := .lst (pick3 xs l u (some k))) (fun b ob q => Heap.get?_push_of_some _ q) (Nat.le_refl _) ?_, rfl, q _ (I5.hok.fresh (Nat.le_refl _))⟩
  have v := vals_pick3 r l u (some k)
  refine ⟨?_, (slicePick its.toArray l u (some k)).toList, 0, v, ?_⟩
  · rw [v.length, Array.length_toList]
    exact Nat.le_trans (slicePick_size_le _ _ _ _) hz2
  · rw [Array.toArray_toList]
    exact Heap.get?_push_size _ rfl
end
/-- a tuple of the written part -/
def KTup (K : PySem.W.Frag) (a : Addr) (xs : List V) : Prop := ∃ (o : Obj) (its : Array Value) (n : Nat), K.lookup a = some o ∧ o.cls = .type "tuple" ∧ o.data = .seq its n ∧ its.size ≤ sizeLine ∧ Vals xs its.toList
/-- a list or a tuple with these items -/
def SeqV (K : PySem.W.Frag) (kn : Hp) (v : V) (xs : List V) : Prop := ∃ a, v = .ref a ∧ (kn a = some (.lst xs) ∨ kn a = some (.tup xs) ∨ KTup K a xs)
theorem SeqV.ext {K : PySem.W.Frag} {kn kn' : Hp} {v : V} {xs : List V} (e : Ext kn kn') (h : SeqV K kn v xs) : SeqV K kn' v xs := by
  obtain ⟨a, rfl, h | h | h⟩ := h
  · exact ⟨a, rfl, .inl (e _ _ h)⟩
  · exact ⟨a, rfl, .inr (.inl (e _ _ h))⟩
  · exact ⟨a, rfl, .inr (.inr h)⟩
theorem SeqV.ty {K : PySem.W.Frag} {kn : Hp} {v : V} {xs : List V} (h : SeqV K kn v xs) : TyX K kn v (.type "list") ∨ TyX K kn v (.type "tuple") := by
  obtain ⟨a, rfl, h | h | ⟨o, its, n, e, c, _⟩⟩ := h
  · exact .inl (.base (.lst h))
  · exact .inr (.base (.tup h))
  · exact .inr (.kTuple e c)
end L2
namespace AW
open PySem PySem.Spec PyProof.Rows L2 ClX StX
section
variable {c : Cw} {kn : Hp} {n : Nat} {σ : L2.St} {Q : V → Hp → Nat → Prop} {QA : List V → Hp → Nat → Prop} {K : PySem.W.Frag}
theorem r_repQ {l : Addr} {xs : List V} {k : Int} (h : kn l = some (.lst xs)) (h1 : -(2 ^ 63) ≤ k) (h2 : k < 2 ^ 63) (h3 : xs.length * k.toNat ≤ 100000) (q : ∀ p, kn p = none → Q (.ref p) (upd kn p (.lst (List.replicate k.toNat xs).flatten)) n) : W c (rRepQ (.ref l) (.int k)) kn n Q :=
  fun H g _ f => ⟨l, k, xs, rfl, rfl, g.ex _ _ h, h1, h2, sz h3, fun p hp => f _ _ n _ (q p (g.free hp)) (g.new hp)⟩
theorem r_tupL {p : Addr} {xs : List V} (h : kn p = some (.lst xs)) (q : ∀ l, kn l = none → Q (.ref l) (upd kn l (.tup xs)) n) : W c (rTupQ K [.ref p]) kn n Q :=
  fun H g _ f => ⟨p, xs, rfl, .inl ⟨sql (g.ex _ _ h), fun l hl => f _ _ n _ (q l (g.free hl)) (g.new hl)⟩⟩
theorem r_joinQ {a : Str} {p : Addr} {ys : List Str} (h : kn p = some (.lst (ys.map V.str))) (hs : (ys.map (·.length)).sum + ys.length * a.length ≤ 16777216) (q : Q (.str (Txt.join a ys)) kn n) : W c (rJoinQ K (.str a) [.ref p]) kn n Q :=
  fun H g _ f => ⟨a, p, ys, rfl, rfl, .inl (sql (g.ex _ _ h)), hs, f _ kn n H q g⟩
theorem w_star {te : TE} {t : TA} (h : W c (te σ) kn n fun x kn1 n1 => ∃ p xs, x = .ref p ∧ (kn1 p = some (.lst xs) ∨ kn1 p = some (.tup xs)) ∧ W c (t σ) kn1 n1 fun ys kn2 n2 => QA (xs ++ ys) kn2 n2) : W c (tStar K te t σ) kn n QA :=
  fun H g Q' q => h H g _ fun x kn1 n1 H1 ⟨p, xs, e, hp, h1⟩ g1 => ⟨p, xs, e, hp.symm.imp (fun z => sqt (g1.ex _ _ z)) (fun z => sql (g1.ex _ _ z)), h1 H1 g1 _ fun ys kn2 n2 H2 h2 g2 => q _ _ _ _ h2 g2⟩
theorem w_sl3 {te : TE} {tl th : TO} {k : Int} (h : W c (te σ) kn n fun x kn1 n1 => W c (tl σ) kn1 n1 fun l kn2 n2 => W c (th σ) kn2 n2 fun u kn3 n3 => ∃ a xs, x = .ref a ∧ kn3 a = some (.lst xs) ∧ ∀ p, kn3 p = none → Q (.ref p) (upd kn3 p (.lst (pick3 xs l u (some k)))) n3) : W c (tSl3 K te tl th k σ) kn n Q :=
  fun H g Q' q => h H g _ fun x kn1 n1 H1 h1 g1 => h1 H1 g1 _ fun l kn2 n2 H2 h2 g2 => h2 H2 g2 _ fun u kn3 n3 H3 ⟨a, xs, e, ha, h3⟩ g3 => ⟨a, xs, e, sql (g3.ex _ _ ha), fun p hp => q _ _ _ _ (h3 p (g3.free hp)) (g3.new hp)⟩
theorem i_seq3 {i : Nat} {v : V} {xs : List V} {R : It → Hp → Nat → Prop} {kn0 : Hp} (hv : σ[i]? = some (some v)) (e0 : Ext kn0 kn) (hs : SeqV K kn0 v xs) (h : ∀ J ka, Gives J xs ka → (∀ k, Ext kn0 k → ka k) → R J kn n) : WI c (iSeq K (tVar i) σ) kn n R := by
  intro H g R' q
  obtain ⟨a, rfl, ha | ha | hk⟩ := hs
  · exact .inl (i_list (w_var hv ⟨a, xs, rfl, e0 _ _ ha, h _ _ gives_lst fun k e => e _ _ ha⟩) H g R' q)
  · exact .inr (i_tup (w_var hv ⟨a, xs, rfl, e0 _ _ ha, h _ _ gives_tup fun k e => e _ _ ha⟩) H g R' q)
  · refine .inr ⟨.ref a, hv, ⟨a, rfl, ⟨xs, .inr hk⟩, q _ _ _ _ (h (Itt K a) (fun _ => True) (fun kn H e _ => ?_) (fun _ _ => trivial)) g⟩⟩
    exact ⟨fun i hi => ⟨xs, xs[i], .inr hk, List.getElem?_eq_getElem hi⟩, fun i hi => ⟨xs, .inr hk, hi⟩, fun i x H' y => ⟨y.1, fun _ => y.2 xs (.inr hk)⟩⟩
theorem w_tru {ta : TE} {QB : Bool → Hp → Nat → Prop} (h : W c (ta σ) kn n fun x kn1 n1 => ∃ p xs, x = .ref p ∧ (kn1 p = some (.lst xs) ∨ kn1 p = some (.tup xs)) ∧ QB (!xs.isEmpty) kn1 n1) : W c (tTru K ta σ) kn n QB :=
  fun H g Q' q => h H g _ fun x kn1 n1 H1 ⟨p, xs, e, hp, hq⟩ g1 => ⟨_, by
    subst e
    rcases hp with z | z
    · exact .inl ⟨xs, sql (g1.ex _ _ z), rfl⟩
    · exact .inr (.inl ⟨xs, sqt (g1.ex _ _ z), rfl⟩), q _ _ _ _ hq g1⟩
/-- a comprehension of what changes nothing, items that are known one by one -/
theorem w_lcP {wi : TI} {gt : TG} {tt : TT} {te : TE} {vs : List Nat}
    (h : WI c (wi σ) kn n fun J kn1 n1 => ∃ (xs : List V) (ka : Hp → Prop) (f : V → V) (p : V → Bool), Gives J xs ka ∧ xs.length ≤ 100000 ∧ (∀ k, Ext kn1 k → ka k) ∧
      (∀ x ∈ xs, ∀ k, Ext kn1 k → WG c gt x (wipe σ vs) k n1 fun σ2 k2 n2 => k2 = k ∧ n2 = n1 ∧ wipe σ2 vs = wipe σ vs ∧ W c (tt σ2) k n1 fun b k3 n3 => b = p x ∧ k3 = k ∧ n3 = n1 ∧ (p x = true → W c (te σ2) k n1 fun y k4 n4 => y = f x ∧ k4 = k ∧ n4 = n1)) ∧
      ∀ D, kn1 D = none → Q (.ref D) (upd kn1 D (.lst ((xs.filter p).map f))) n1) : W c (tLc wi gt tt te vs σ) kn n Q := by
  refine w_lc (fun H g R' q => h H g R' fun J kn1 n1 H1 hJ g1 => q J kn1 n1 H1 ?_ g1)
  obtain ⟨xs, ka, f, p, hG, hl, hk, hs, hd⟩ := hJ
  have e1 : ∀ {k : Hp} {D : Addr} {o : HO}, k D = none → Ext k (upd k D o) := fun h x u e => know h e
  refine ⟨xs, ka, fun D i acc k m => m = n1 ∧ kn1 D = none ∧ acc = ((xs.take i).filter p).map f ∧ k = upd kn1 D (.lst acc), hG, hl, fun D hD => ⟨rfl, hD, by simp, rfl⟩, ?_, ?_, ?_⟩
  · rintro D i acc k m ⟨rfl, hD, rfl, rfl⟩
    refine ⟨hk _ (e1 hD), upd_same, ?_⟩
    rw [List.length_map]
    exact Nat.le_trans (List.length_filter_le _ _) (by rw [List.length_take]; exact Nat.min_le_left _ _)
  · rintro D i acc x k m hx ⟨rfl, hD, rfl, rfl⟩
    have ht : xs.take (i + 1) = xs.take i ++ [x] := by rw [List.take_add_one, hx]; rfl
    intro H g N' f'
    refine hs x (List.mem_of_getElem? hx) _ (e1 hD) H g N' fun σ2 k2 n2 H2 hq g2 => f' σ2 k2 n2 H2 ?_ g2
    obtain ⟨rfl, rfl, hw, hq⟩ := hq
    refine ⟨hw, hq.mono fun b k3 n3 hb => ?_⟩
    obtain ⟨rfl, rfl, rfl, he⟩ := hb
    refine ⟨fun hp => (he hp).mono fun y k4 n4 hy => ?_, fun hp => ⟨rfl, hD, ?_, rfl⟩⟩
    · obtain ⟨rfl, rfl, rfl⟩ := hy
      refine ⟨upd_same, rfl, hD, ?_, ?_⟩
      · rw [ht, List.filter_append, List.filter_cons_of_pos hp, List.map_append]; rfl
      · funext z
        by_cases hz : z = D
        · rw [hz, upd_same, upd_same]
        · rw [upd_ne hz, upd_ne hz, upd_ne hz]
    · rw [ht, List.filter_append, List.filter_cons_of_neg (by rw [hp]; exact Bool.false_ne_true)]
      simp
  · rintro D acc k m ⟨rfl, hD, rfl, rfl⟩
    rw [List.take_length]
    exact hd D hD
theorem w_yesT {QB : Bool → Hp → Nat → Prop} (q : QB true kn n) : W c (tYes σ) kn n QB := fun H g Q' k => k _ kn n H q g
/-- what no run comes to -/
theorem s_never {D : AE} (h : False) : WS c tNever D σ kn n := h.elim
theorem w_never {Q : V → Hp → Nat → Prop} (h : False) : W c ((fun _ _ _ => False : TE) σ) kn n Q := h.elim
end
end AW

/-! Ranges beyond 2^62. -/
namespace L2
open PySem PySem.Spec PyProof.Rows
theorem lot_int (tg : Expr) (it : Value) (i : Int) (t : Tok) : letOwnedTupleGo tg it (.int i t) = pure () := by
  cases tg <;> cases it <;> rfl
theorem iter_selfL (it : Addr) : Gives (Builtin.«dict_keyiterator.__iter__» { pos := [Value.ref it] }) (.val (.ref it)) := by
  intro prog w A R s h
  unfold Builtin.«dict_keyiterator.__iter__»
  refine wpAny_bind (wpAny_of_eq (a := ((Value.ref it : Value), ([] : List Value))) (by first | rfl | (simp only [slotArgs]; rfl)) ?_)
  exact wpAny_pure h
theorem pyIter_long {P : Program} {w : World} {A : Around} {E : Value → Shared → Prop} {s : Shared} {it : Addr} {x left step : Int} {Q : Value → Shared → Prop} (h : IsLongIter s.heap it x left step) (q : Q (.ref it) s) : wpAny (model P w) A (pyIter (.ref it)) Q E s := by
  have ty : s.TypeIs (.ref it) "longrange_iterator" := ⟨_, h, rfl⟩
  unfold pyIter
  refine wpAny_bind (wpAny_specialOf ty F.slot_longrange_iterator_iter.lookup ?_)
  dsimp only
  refine wpAny_bind (wpAny_callSpecialIfBoundUnlessNone?_slot ty F.slot_longrange_iterator_iter (call_gives F.slot_longrange_iterator_iter ty F.entry_longrange_iterator_iter (F.args_longrange_iterator_iter_1 _) (iter_selfL it) ?_))
  show wpAny _ _ _ _ _ _
  refine wpAny_bind (wpAny_specialOf ty F.slot_longrange_iterator_next.lookup ?_)
  exact wpAny_pure q
theorem turn_long {P : Program} {w : World} {K : PySem.W.Frag} {tg : Expr} (lo : Int) (n : Nat) (it : Addr) : Turn P w K tg (Itr lo n) [it] it (fun i h => i ≤ n ∧ IsLongIter h it (lo + (i : Int) * 1) ((n : Int) - i) 1) := by
  refine ⟨.head _, fun i h e b hb => ?_, fun i h h' e k => ?_, ?_, ?_, ?_⟩
  · rw [List.mem_singleton.1 hb]
    exact ⟨_, e.2, fun v z => nomatch z⟩
  · exact ⟨e.1, k it (.head _) _ e.2⟩
  · intro X hP hw hK hc i pins s σ H E I fp tn go
    subst hP hw hK
    have W := Walks.longrange (prog := X.prog) (w := X.w) (I.ok.hd hc) it lo 1 n
    refine W.item i s _ E go tn.2 fun v h' tk hv hs keep => ?_
    obtain ⟨t, rfl⟩ := hv
    refine ⟨_, rfl, ?_⟩
    rw [lot_int]
    obtain ⟨f1, f2, f3, f4, f5, f6⟩ := fp it (.head _)
    have go : i < n := go
    refine wpAny_pure ⟨.int (lo + i), H, I.turned (fun b o hb e => keep b o (by simp [hb]) e) f1 f2 f4 f5 f6, ?_, ⟨rfl, rfl⟩, ⟨go, hs⟩, fun b hb => by rw [List.mem_singleton.1 hb]; exact f1⟩
    exact ⟨t, by rw [Int.mul_one]⟩
  · intro X hP hw hK hc i pins s σ H E I fp tn st
    subst hP hw hK
    have W := Walks.longrange (prog := X.prog) (w := X.w) (I.ok.hd hc) it lo 1 n
    have st : n ≤ i := st
    obtain rfl : i = n := Nat.le_antisymm tn.1 st
    obtain ⟨f1, f2, f3, f4, f5, f6⟩ := fp it (.head _)
    exact W.done s _ E tn.2 fun h' tk keep => ⟨rfl, I.turned (fun b o hb e => keep b o (by simp [hb]) e) f1 f2 f4 f5 f6⟩
  · intro A i s Q E tn q
    exact pyIter_long tn.2 q
theorem size_1 (a b : Int) : Builtin.Range.rangeSize a b 1 = (((b - a).toNat : Nat) : Int) := by
  unfold Builtin.Range.rangeSize
  rw [if_pos (by decide)]
  split
  · rw [Int.ediv_one]
    omega
  · omega
/-- a range with any ends -/
def iRgA (tr : St → Hp → (Int → Int → Hp → Prop) → Prop) : TI := fun σ H R => tr σ H fun a b H1 => R (Itr a (b - a).toNat) H1
theorem pi_rangeA {X : Cx} {tg e : Expr} {tr : St → Hp → (Int → Int → Hp → Prop) → Prop} (he : PRg X e tr) : PI X tg e (iRgA tr) := by
  refine ⟨fun pins s σ H R I h => ?_⟩
  refine thn (he pins s σ H _ I h) fun x s1 ⟨r, a, b, t, u, v, H', ex, hr, I1, q⟩ => ?_
  subst ex
  have fp := I1.fpOk (b := s1.heap.objs.size) (Nat.le_refl _) (I1.hok.fresh (Nat.le_refl _))
  cases hs : Builtin.Range.small a b 1 with
  | true =>
    refine wpAny_pyIter_range hr hs ?_
    refine ⟨s1.heap.objs.size, [s1.heap.objs.size], _, Itr a (b - a).toNat, H', rfl, I1.kept (t' := s1.toks) fun c o e => Heap.get?_push_of_some _ e, turn_range s1.heap.objs.size a (b - a).toNat, ?_, fun c hc => by rw [List.mem_singleton.1 hc]; exact fp, q⟩
    show IsRangeIter _ _ _ _ _
    rw [size_1]
    have e1 : a + ((0 : Nat) : Int) * 1 = a := by omega
    have e2 : (((b - a).toNat : Nat) : Int) - ((0 : Nat) : Int) = (((b - a).toNat : Nat) : Int) := by omega
    rw [e1, e2]
    exact Heap.get?_push_size _ rfl
  | false =>
    refine wpAny_pyIter_longrange hr hs ?_
    refine ⟨s1.heap.objs.size, [s1.heap.objs.size], _, Itr a (b - a).toNat, H', rfl, I1.kept (t' := s1.toks) fun c o e => Heap.get?_push_of_some _ e, turn_long a (b - a).toNat s1.heap.objs.size, ⟨Nat.zero_le _, ?_⟩, fun c hc => by rw [List.mem_singleton.1 hc]; exact fp, q⟩
    show IsLongIter _ _ _ _ _
    rw [size_1]
    have e1 : a + ((0 : Nat) : Int) * 1 = a := by omega
    have e2 : (((b - a).toNat : Nat) : Int) - ((0 : Nat) : Int) = (((b - a).toNat : Nat) : Int) := by omega
    rw [e1, e2]
    exact Heap.get?_push_size _ rfl
end L2
namespace AW
open PySem PySem.Spec L2
theorem i_rgA {c : Cw} {kn : Hp} {n : Nat} {σ : L2.St} {ta tb : TE} {R : It → Hp → Nat → Prop} (h : W c (ta σ) kn n fun x kn1 n1 => W c (tb σ) kn1 n1 fun y kn2 n2 => ∃ i j, x = .int i ∧ y = .int j ∧ R (Itr i (j - i).toNat) kn2 n2) : WI c (iRgA (tRg2 ta tb) σ) kn n R :=
  fun H g R' q => h H g _ fun x kn1 n1 H1 h1 g1 => h1 H1 g1 _ fun y kn2 n2 H2 ⟨i, j, ex, ey, hr⟩ g2 => ⟨i, j, ex, ey, q _ _ _ _ hr g2⟩
end AW

/-! Tuples and lists of the same things compared: also of things that are no data. -/
namespace L2
open PySem PySem.Spec PyProof.Rows
theorem eqAt_ref {A : Around} {s : Shared} (a : Addr) : SeqAt.EqAt A s (.ref a) (.ref a) true := by
  intro prog w E Q q
  unfold eqBool
  refine wpAny_holding ?_
  rw [if_pos (by simp)]
  exact wpAny_bind (wpAny_rule (wpAny_pure q))
def plainV : V → Bool
  | .ref _ => true
  | v => flatB v
theorem eqAt_plain {A : Around} {s : Shared} {v : V} {u u' : Value} (r : RelV v u) (r' : RelV v u') (h : plainV v = true) : SeqAt.EqAt A s u u' true := by
  cases v with
  | ref a =>
    cases (show u = Value.ref a from r)
    cases (show u' = Value.ref a from r')
    exact eqAt_ref a
  | _ => exact eqAt_same r r' h
def rEqS (K : PySem.W.Frag) (neg : Bool) : R2 := fun x y H Q => ∃ p q xs, x = .ref p ∧ y = .ref q ∧ ((SqT K H p xs ∧ SqT K H q xs)) ∧ (∀ v ∈ xs, plainV v = true) ∧ Q (.bl (!neg)) H
section
variable {X : Cx}
theorem op_eqS (hu : X.A.units < cLine) : OpR X (compareOp .Eq) (rEqS X.K false) := by
  intro pins s σ H x y v u Q I rx ry h
  obtain ⟨p, q, xs, rfl, rfl, ⟨h1, h2⟩, hf, hq⟩ := h
  cases rx
  cases ry
  obtain ⟨its, v1, T1, z1⟩ := I.tuple h1
  obtain ⟨its2, v2, T2, z2⟩ := I.tuple h2
  obtain ⟨⟨c1, dd1, da1, sl1⟩, g1, rfl, n1, rfl⟩ := T1
  obtain ⟨⟨c2, dd2, da2, sl2⟩, g2, rfl, n2, rfl⟩ := T2
  have l1 := v1.length
  have l2 := v2.length
  show wpAny _ _ (richCompare .Eq (.ref p) (.ref q)) _ _ _
  refine wpAny_richCompare_same_or (T := "tuple") ⟨_, g1, rfl⟩ ⟨_, g2, rfl⟩ F.slot_tuple_eq ?_ (.inr hu)
  refine call_meets F.slot_tuple_eq ⟨_, g1, rfl⟩ F.entry_tuple_eq (F.args_tuple_eq_2 _ _) (SeqAt.tuple_eqAt p q its.toArray its2.toArray n1 n2 dd1 dd2 sl1 sl2 fun _ => true) ⟨g1, g2, fun j k1 k2 => ?_, ?_⟩
  · rw [List.size_toArray] at k1 k2
    have hx : j < xs.length := by omega
    obtain ⟨u1, e1, r1⟩ := v1.get (List.getElem?_eq_getElem hx)
    obtain ⟨u2, e2, r2⟩ := v2.get (List.getElem?_eq_getElem hx)
    rw [List.getElem?_eq_getElem k1] at e1
    rw [List.getElem?_eq_getElem k2] at e2
    cases e1
    cases e2
    exact eqAt_plain r1 r2 (hf _ (List.getElem_mem hx))
  · have e : ((List.range (min its.toArray.size its2.toArray.size)).all (fun _ => true) && its.toArray.size == its2.toArray.size) = true := by
      rw [List.size_toArray, List.size_toArray, ← l1, ← l2]
      simp
    rw [e]
    exact ⟨(fun z => nomatch z), ⟨.bl true, H, I, rfl, hq⟩⟩
end
end L2
namespace AW
open PySem PySem.Spec L2
theorem r_eqS {c : Cw} {kn : Hp} {n : Nat} {Q : V → Hp → Nat → Prop} {K : PySem.W.Frag} {p q : Addr} {xs : List V} (h1 : kn p = some (.tup xs)) (h2 : kn q = some (.tup xs)) (hf : ∀ v ∈ xs, plainV v = true) (k : Q (.bl true) kn n) : W c (rEqS K false (.ref p) (.ref q)) kn n Q :=
  fun H g _ z => ⟨p, q, xs, rfl, rfl, ⟨sqt (g.ex _ _ h1), sqt (g.ex _ _ h2)⟩, hf, z _ kn n H k g⟩
end AW

/-! bool of a tuple, repr of a number or None, a dict of one entry. -/
namespace L2
open PySem PySem.Spec PyProof.Rows
section
variable {X : Cx}
def rBoolT (K : PySem.W.Frag) : List V → Hp → VK → Prop := fun xs H Q => ∃ (a : Addr) (zs : List V), xs = [.ref a] ∧ SqT K H a zs ∧ Q (.bl (!zs.isEmpty)) H
theorem c_boolT : CallR X (.type "bool") (rBoolT X.K) := by
  intro pins s σ H xs us Q I r h
  obtain ⟨a, zs, rfl, hq, q⟩ := h
  obtain ⟨u, rfl, rx⟩ := vals1 r
  cases (show u = Value.ref a from rx)
  obtain ⟨its, rv, pl, hz⟩ := I.tuple hq
  have hl := line63
  have hlen := rv.length
  refine callType_newIn PySem.F.called_bool PySem.F.newNe_bool (PySem.F.typeCall_bool_1 _) (PySem.F.newCall_bool_1 _) (fun obj => PySem.F.args_object_init_2 obj _) PySem.F.entry_bool_new bool_new_own ?_
  refine truthy_tuple pl (by simp only [List.size_toArray]; omega) ?_
  refine ⟨PySem.typeIs_bool _ _, .bl (!zs.isEmpty), H, I.tok _, ?_, q⟩
  rw [isEmpty_of rv]
  rfl
def rReprS : List V → Hp → VK → Prop := fun xs H Q => (∃ i : Int, xs = [.int i] ∧ i.natAbs.log2 < 1920 ∧ Q (.str (toString i)) H) ∨ (xs = [.non] ∧ Q (.str "None") H)
theorem c_reprS : CallR X (.builtin "repr") rReprS := by
  intro pins s σ H xs us Q I r h
  rcases h with ⟨i, rfl, hz, q⟩ | ⟨rfl, q⟩
  · obtain ⟨u, rfl, t, rfl⟩ := vals1 r
    exact PySem.P.repr_of_int hz ⟨.str _, H, I.tok _, ⟨_, rfl⟩, q⟩
  · obtain ⟨u, rfl, rx⟩ := vals1 r
    cases (show u = Value.none from rx)
    exact PySem.P.repr_of_none ⟨.str "None", H, I.tok _, ⟨_, rfl⟩, q⟩
end
end L2
namespace AW
open PySem PySem.Spec L2
section
variable {K : PySem.W.Frag} {c : Cw} {kn : Hp} {n : Nat} {σ : L2.St} {Q : V → Hp → Nat → Prop}
theorem r_boolT {p : Addr} {xs : List V} (h : kn p = some (.tup xs)) (q : Q (.bl (!xs.isEmpty)) kn n) : W c (rBoolT K [.ref p]) kn n Q := fun H g _ k => ⟨p, xs, rfl, sqt (g.ex _ _ h), k _ kn n H q g⟩
def reprV : V → Str
  | .int i => Str.ofString (toString i)
  | _ => Str.ofString "None"
theorem r_reprS {v : V} (hv : (∃ i : Int, v = .int i ∧ i.natAbs.log2 < 1920) ∨ v = .non) (q : Q (.str (reprV v)) kn n) : W c (rReprS [v]) kn n Q := fun H g _ k => by
  rcases hv with ⟨i, rfl, hi⟩ | rfl
  · exact .inl ⟨i, rfl, hi, k _ kn n H q g⟩
  · exact .inr ⟨rfl, k _ kn n H q g⟩
/-- {k: v} -/
theorem w_dict1 {tk tv : TE} (h : ∀ p, kn p = none → W c (tk σ) (upd kn p (.dK [])) n fun x kn1 n1 => W c (tv σ) kn1 n1 fun y kn2 n2 => ∃ k, x = kV k ∧ kn2 p = some (.dK []) ∧ Q (.ref p) (upd kn2 p (.dK (mergeK [] [(k, y)]))) n2) : W c (tDisp [(tk, tv)] σ) kn n Q :=
  fun H g Q' q => fun p hp => h p (g.free hp) _ (g.new hp) _ fun x kn1 n1 H1 h1 g1 => h1 H1 g1 _ fun y kn2 n2 H2 ⟨k, e, hd, h2⟩ g2 => ⟨g2.ex _ _ hd, [(k, y)], by rw [e]; rfl, (show 1 ≤ 15 by decide), q _ _ _ _ h2 (g2.put hd rfl)⟩
end
end AW

/-! Own errors made: as values, and in a raise whose error may be caught and followed by another. -/
namespace L2
open PySem PySem.Spec PyProof.Rows
theorem Fun.okXN {P : Program} {w : World} {K : PySem.W.Frag} {mg : Str → Option Value} {base : Heap} {x qual : Str} {st : Stmt} {f : Addr} {fd : FuncData} {N ps : List Str} {k : Nat} {sp : Sp} (F : Fun K x qual st f fd) (S : FnScope N ps (defScope st)) (len : ∀ vs H Q E, sp vs H Q E → vs.length = ps.length)
    (hbody : ∀ (cdv : Value) (A : Around) (outer : List Env) (s : Shared) (H : Hp) (vs : List V) (Q : VK) (E : XK), Room k (A.deeper (envOfC qual (defScope st) s.heap.objs.size f cdv)) → sp vs H Q E →
      ∃ t, PSs (cxOf (L2N.CX P w) P w K mg base N qual (defScope st) f cdv A outer s H E) (defBody st) t ∧ t { nx := fun _ H' => Q .non H', rt := Q } (start N vs) H) : FnOk P w K mg base (L2N.CX P w) (k + 1) f fd ps sp := by
  obtain ⟨oc, od, kV, doc, pm, an, cdv, ct, osl, rfl, lk, hcd⟩ := F.ex
  exact ⟨len, fun A outer s H args us vs Q E hr e0 hb r hsp => LamX.run_ofS lk hcd S hr e0 hb r (len _ _ _ _ hsp) fun hr' => hbody cdv A outer s H vs Q E hr' hsp⟩
theorem passLN {X : Cx} : Passes (L2N.CX X.prog X.w) X E0 := fun pins σ H s e s' _ h => by
  obtain ⟨a, B, H', cls, d, _, _, _, _, _, _, _, z⟩ := h
  exact z.elim
section
variable {X : Cx} {CX : CXT} {k : Nat} {C fI : Addr} {fd : FuncData} {ps : List Str} {sp : Sp} {ds : List Value} {dvs : List V} {pins : List (Addr × Obj)} {σ : St} {H : Hp} {s : Shared} {us : List Value} {vs : List V}
theorem oex_core (T : OexC X.K C) (iC : PySem.W.findIn X.K (.ref C) "__init__" = some (some (.ref fI))) (tI : PySem.W.typeIn X.K (.ref fI) = some (.type "function")) (F : FnOk X.prog X.w X.K X.mg X.base CX k fI fd ps sp) (hr : Room (k + 1) X.A) (hb : Binds X.K fd ps ds) (hd : Vals dvs ds)
    (hx : Passes CX X (fun _ _ _ => False)) (I : Inv X pins σ H s) (rv : Vals vs us) (hl : vs.length ≤ 1000) {QQ : Addr → Hp → Prop} {R : Value → Shared → Prop}
    (hsp : ∀ a, H a = none → sp (.ref a :: (vs ++ dvs)) (upd H a (exo a C none)) (fun v H2 => v = .non ∧ QQ a H2) (fun _ _ _ => False))
    (fin : ∀ (a : Addr) (s2 s' : Shared) (H2 : Hp), H a = none → s.heap.objs.size ≤ a → (∀ b o, s.heap.get? b = some o → s2.heap.get? b = some o) → Inv X pins σ (upd H a (exo a C none)) s2 → s2.os = s.os →
      s'.os = s2.os → AllBare s'.gens → Un (frs X.stack) [] (upd H a (exo a C none)) H2 s2.heap s'.heap → HOk X.prog X.w H2 s'.heap → QQ a H2 → R (.ref a) s') :
    wpAny (model X.prog X.w) X.A (call (.ref C) us) R X.xe s := by
  obtain ⟨hp, g, d, t, os⟩ := s
  obtain ⟨nm, q, N, bs, bm, sn, sub, ab, col, dd, k0, k1, k2, k3, k5, lk, hbm⟩ := T.cls
  have hlu : us.length ≤ 1000 := by rw [← rv.length]; exact hl
  have keeps : ∀ b o, hp.get? b = some o → ((hp.push (PySem.W.kdv_tup us)).push (HandSPX.excO C hp.objs.size)).get? b = some o := fun b o e => Heap.get?_push_of_some _ (Heap.get?_push_of_some _ e)
  have hn : H (hp.objs.size + 1) = none := I.hok.fresh (Nat.le_succ _)
  have hsz : (hp.push (PySem.W.kdv_tup us)).objs.size = hp.objs.size + 1 := by simp [Heap.push]
  have I2 : Inv X pins σ (upd H (hp.objs.size + 1) (exo (hp.objs.size + 1) C none)) ⟨(hp.push (PySem.W.kdv_tup us)).push (HandSPX.excO C hp.objs.size), g, d, t, os⟩ :=
    I.laid (t' := t) keeps (Nat.le_succ _) (exo_ok (t1 := hp.objs.size) (by rw [← hsz]; exact Heap.get?_push_size _ rfl))
  refine wpAny_call ?_
  refine HandSPX.call_own PySem.F.excBase_ValueError (fun Y => HandSPX.refsVE_contains Y _ hbm) (I.kIn _ _ lk) (PySem.W.looks_findIn I.kIn iC) (fun self => PySem.W.bind_fn I.kIn self tI) (Nat.le_trans hlu (by rw [sizeLine_eq]; decide)) ?_
  have rr : Vals (V.ref (hp.objs.size + 1) :: (vs ++ dvs)) (Value.ref (hp.objs.size + 1) :: us ++ ds) := .cons rfl (rv.append hd)
  have hlen : (Value.ref (hp.objs.size + 1) :: us ++ ds).length = ps.length := by rw [← rr.length]; exact F.len _ _ _ _ (hsp _ hn)
  have e2 := I2.env0
  refine codeAny_mono (F.run (X.A.under (.builtin "type.__call__" { pos := .ref C :: us })) X.stack _ _ ⟨.ref (hp.objs.size + 1) :: us, []⟩ (.ref (hp.objs.size + 1) :: us ++ ds) (.ref (hp.objs.size + 1) :: (vs ++ dvs)) _ _ (hr.make C us []) ⟨e2.frames, e2.mod, e2.bs, e2.bsz, e2.funs, e2.frf, e2.hok, e2.bare⟩ (hb _ (.ref (hp.objs.size + 1) :: us) I2.kIn hlen) rr (hsp _ hn)) fun r s' hq => ?_
  cases r with
  | error e => exact hx pins σ _ _ e s' I2 hq
  | ok fl =>
    cases fl with
    | ret u =>
      obtain ⟨v, H2, os', bare, un, hok, rel, ev, q⟩ := hq
      subst ev
      exact ⟨rel, fin _ _ _ _ hn (Nat.le_succ _) keeps I2 rfl os' bare un hok q⟩
    | next => exact False.elim hq
    | brk => exact False.elim hq
    | cont => exact False.elim hq
variable {x : Str} {e : Expr} {es : List Expr} {ta : TA} {p pos : Pos}
/-- an own error made, as a value -/
def tMkV (C : Addr) (sp : Sp) (dvs : List V) (ta : TA) : TE := fun σ H Q => ta σ H fun vs H1 => vs.length ≤ 1000 ∧ ∀ a, H1 a = none → sp (.ref a :: (vs ++ dvs)) (upd H1 a (exo a C none)) (fun v H2 => v = .non ∧ Q (.ref a) H2) (fun _ _ _ => False)
theorem pe_oexV (T : OexC X.K C) (iC : PySem.W.findIn X.K (.ref C) "__init__" = some (some (.ref fI))) (tI : PySem.W.typeIn X.K (.ref fI) = some (.type "function")) (F : FnOk X.prog X.w X.K X.mg X.base CX k fI fd ps sp) (hr : Room (k + 1) X.A) (hb : Binds X.K fd ps ds) (hd : Vals dvs ds)
    (hx : Passes CX X (fun _ _ _ => False)) (hg : Gl X x) (hm : X.mg x = some (.ref C)) (ha : PA X (e :: es) ta) (hdb : (x == ("__debug__" : Str)) = false := by decide) (he : starEach (e :: es) X.env = (false, eval e X.env) :: starEach es X.env := by rfl) (hpl : (backTo pos (starEach es X.env)).any (·.1) = false := by rfl) :
    PE X (.Call (.Name x p) (e :: es) [] pos) (tMkV C sp dvs ta) := by
  refine ⟨fun pins s σ H Q I h => wpAny_Call_Name_kw (ld_glob I hg hm ?_ hdb)⟩
  refine PySem.W.callWith_K (h₀ := X.base) I.ok.mod.kin T.kC (thn (ha.run pos pins s σ H _ I h) fun us s1 ⟨vs, H1, I1, r, hl, q⟩ => ⟨I1.kIn, ?_⟩) he hpl
  refine oex_core T iC tI F hr hb hd hx I1 r hl (QQ := fun a H2 => Q (.ref a) H2) q fun a s2 s' H2 hn hs kp I2 os2 os' bare un hok hq => ?_
  exact I2.after ⟨.ref a, H2, os', bare, un, hok, rfl, hq⟩
theorem pmkN_oex (T : OexC X.K C) (iC : PySem.W.findIn X.K (.ref C) "__init__" = some (some (.ref fI))) (tI : PySem.W.typeIn X.K (.ref fI) = some (.type "function")) (F : FnOk X.prog X.w X.K X.mg X.base CX k fI fd ps sp) (hr : Room (k + 1) X.A) (hb : Binds X.K fd ps ds) (hd : Vals dvs ds)
    (hx : Passes CX X (fun _ _ _ => False)) (hg : Gl X x) (hm : X.mg x = some (.ref C)) (ha : PA X (e :: es) ta) (hdb : (x == ("__debug__" : Str)) = false := by decide) (he : starEach (e :: es) X.env = (false, eval e X.env) :: starEach es X.env := by rfl) (hpl : (backTo pos (starEach es X.env)).any (·.1) = false := by rfl) :
    L2N.PMk X (.Call (.Name x p) (e :: es) [] pos) (tMkO C sp dvs ta) := by
  intro pins s σ H Q I h
  refine wpAny_Call_Name_kw (ld_glob I hg hm ?_ hdb)
  refine PySem.W.callWith_K (h₀ := X.base) I.ok.mod.kin T.kC (thn (ha.run pos pins s σ H _ I h) fun us s1 ⟨vs, H1, I1, r, hl, q⟩ => ⟨I1.kIn, ?_⟩) he hpl
  refine oex_core T iC tI F hr hb hd hx I1 r hl (QQ := fun a H2 => ∃ d fs, H2 a = some (exo a C (some d)) ∧ H2 d = some (exd d fs) ∧ H1 d = none ∧ Q (.ref C) (some d) (upd (del H2 a) d (.xd fs))) q fun a s2 s' H2 hn hs kp I2 os2 os' bare un hok hq => ?_
  obtain ⟨d, fs, h1, h2, h3, hq⟩ := hq
  obtain ⟨hp, g1, d1, t1, os1⟩ := s1
  obtain ⟨hp2, g2, d2, t2, osx⟩ := s2
  obtain ⟨h', g', d', t', os3⟩ := s'
  obtain ⟨t0, G, IG, kG, nG, gG, nH⟩ := mk_end0 I1 hs kp un hok (os'.trans os2) bare h1 h2 h3
  refine ⟨a, _, _, ⟨G, g', d', t', os3⟩, _, _, _, rfl, IG, kG, nG, gG, ⟨rfl, rfl, fun vs hv => ?_⟩, rfl, rfl, nH, rfl, bare, ?_, hq⟩
  · cases hv
    rfl
  · exact raises_own T.exC T.tyC
end
end L2
namespace AW
open L2
theorem takesN_len {X : Cx} {W : WX} {m : Nat} (tk : L2N.Takes X W) (h : X.N.length = m := by rfl) : L2N.Takes X (fun cls d σ H => σ.length = m → W cls d σ H) :=
  fun u s' ⟨a, B, sI, pins, σ, H, cls, d, e, I, nb, up, sky, na, os, ag, w⟩ => tk u s' ⟨a, B, sI, pins, σ, H, cls, d, e, I, nb, up, sky, na, os, ag, w (I.len.trans h)⟩
end AW

/-! <=, <, >=, > and ~ of an own class; math.lcm. -/
namespace L2
open PySem PySem.Spec PyProof.Rows
section
variable {X : Cx} {CX : CXT} {k : Nat} {f C : Addr} {fd : FuncData} {ps : List Str} {sp : Sp} {E : XK}
structure CmpM (K : PySem.W.Frag) (op : CmpOp) (C f : Addr) : Prop where
  hs : PySem.W.findIn K (.ref C) (cmpInfo op).2.1 = some (some (.ref f))
  hf : PySem.W.isFn K (.ref f) = true
def rCmpO (K : PySem.W.Frag) (C : Addr) (sp : Sp) (E : XK) : R2 := fun x y H Q => ∃ a dx fs t, x = .ref a ∧ H a = some (.ins C dx fs) ∧ TyX K H y t ∧ PySem.W.notFirst K C t = true ∧ sp [.ref a, y] H Q E
theorem op_cmpO {op : CmpOp} (hop : ∀ a b, compareOp op a b = richCompare op a b) (M : CmpM X.K op C f) (F : FnOk X.prog X.w X.K X.mg X.base CX k f fd ps sp) (hr : Room (k + 1) X.A) (hb : Binds X.K fd ps []) (hx : Passes CX X E) : OpR X (compareOp op) (rCmpO X.K C sp E) := by
  intro pins s σ H x y v u Q I rx ry h
  obtain ⟨a, dx, fs, t, rfl, ha, ty, nf, hq⟩ := h
  cases rx
  obtain ⟨mA, J, _⟩ := ins_get I.hok ha
  obtain ⟨od, J, _⟩ := J.look
  have hbt := typeOf_of I ry ty
  obtain ⟨m, hF⟩ := I.fr
  rw [hop]
  refine PySem.W.cmp_K (op := op) hr.units0 hF I.ok.mod.kin J hbt nf M.hs M.hf ?_
  exact wpAny_mono (callA (vs := [.ref a, y]) F (hr.mono (Nat.le_succ _)) rfl hb hx I (.cons rfl (.cons ry .nil)) hq) (fun z s' hz => by
    obtain ⟨v', H', I', rv, q⟩ := id hz
    exact relV_ni rv hz) fun _ _ z => z
def rUnO (C : Addr) (sp : Sp) (E : XK) : V → Hp → VK → Prop := fun x H Q => ∃ a dx fs, x = .ref a ∧ H a = some (.ins C dx fs) ∧ sp [.ref a] H Q E
theorem un_invO (hs : PySem.W.findIn X.K (.ref C) "__invert__" = some (some (.ref f))) (hf : PySem.W.isFn X.K (.ref f) = true) (F : FnOk X.prog X.w X.K X.mg X.base CX k f fd ps sp) (hr : Room k X.A) (hb : Binds X.K fd ps []) (hx : Passes CX X E) : UnR X (unaryOp .Invert) (rUnO C sp E) := by
  intro pins s σ H x v Q I rx h
  obtain ⟨a, dx, fs, rfl, ha, hq⟩ := h
  cases rx
  obtain ⟨mA, J, _⟩ := ins_get I.hok ha
  obtain ⟨od, J, _⟩ := J.look
  unfold unaryOp
  refine wpAny_holding ?_
  dsimp only
  simp only [show ((UnaryOp.Invert == UnaryOp.Not)) = false from rfl, Bool.false_eq_true, if_false]
  refine wpAny_bind (PySem.W.special_fn I.kIn J hs (beq_iff_eq.mp hf) ?_)
  refine wpAny_mono (callA (vs := [.ref a]) F hr rfl hb hx I (.cons rfl .nil) hq) (fun z s' hz => ?_) fun _ _ z => z
  exact wpAny_pure hz
/-- math.lcm of two small numbers -/
def rLcm : List V → Hp → VK → Prop := fun vs H Q => ∃ a b : Nat, vs = [.int a, .int b] ∧ a ≤ 1000000 ∧ b ≤ 1000000 ∧ Q (.int (Nat.lcm a b : Nat)) H
theorem lcm_small {a b : Nat} (ha : a ≤ 1000000) (hb : b ≤ 1000000) : Nat.lcm a b ≤ 1000000000000 := by
  unfold Nat.lcm
  exact Nat.le_trans (Nat.div_le_self _ _) (Nat.le_trans (Nat.mul_le_mul ha hb) (by decide))
theorem cr_lcm : CallR X (.builtin "math.lcm") rLcm := by
  intro pins s σ H xs us Q I r h
  obtain ⟨a, b, rfl, ha, hb, q⟩ := h
  rcases r with _ | ⟨r1, r⟩
  rcases r with _ | ⟨r2, r⟩
  rcases r with _ | _
  obtain ⟨t1, rfl⟩ := r1
  obtain ⟨t2, rfl⟩ := r2
  have e : (Nat.lcm 1 ((a : Nat) : Int).natAbs).lcm ((b : Nat) : Int).natAbs = Nat.lcm a b := by
    rw [Int.natAbs_natCast, Int.natAbs_natCast, Nat.lcm_one_left]
  have hs := lcm_small ha hb
  refine PySem.W.mg_lcm (by omega) (by omega) ?_ ?_
  · rw [e, Int.natAbs_natCast]
    by_cases z : Nat.lcm a b = 0
    · rw [z]
      decide
    · exact Nat.lt_trans ((Nat.log2_lt z).mpr (show _ < 2 ^ 40 by omega)) (by decide)
  · rw [e]
    exact ⟨.int (Nat.lcm a b : Nat), H, I.tok _, ⟨_, rfl⟩, q⟩
end
end L2
namespace AW
open PySem PySem.Spec L2
section
variable {c : Cw} {kn : Hp} {n : Nat} {σ : L2.St} {Q : V → Hp → Nat → Prop} {K : PySem.W.Frag} {B : List V → Hp → AK → AXK → Prop} {E : XK} {EA : EAK}
theorem r_cmpO {C a dx : Addr} {fs : List (Str × V)} {y : V} {t : Value} (hm : MonoX B) (hE : ErrOk c EA E) (ha : kn a = some (.ins C dx fs)) (ty : TyX K kn y t) (nf : PySem.W.notFirst K C t = true)
    (h : B [.ref a, y] kn (fun v k => Q v k n) (fun cls d k => EA cls d k n)) : W c (rCmpO K C (liftX B) E (.ref a) y) kn n Q :=
  fun H g Q' q => ⟨a, dx, fs, t, rfl, g.ex _ _ ha, tyx_ext g.ex ty, nf, sp_call hm hE h H g Q' q⟩
theorem w_unO {te : TE} {C : Addr} (hm : MonoX B) (hE : ErrOk c EA E)
    (h : W c (te σ) kn n fun x kn1 n1 => ∃ a dx fs, x = .ref a ∧ kn1 a = some (.ins C dx fs) ∧ B [.ref a] kn1 (fun v k => Q v k n1) (fun cls d k => EA cls d k n1)) : W c (tUn (rUnO C (liftX B) E) te σ) kn n Q :=
  fun H g Q' q => h H g _ fun x kn1 n1 H1 ⟨a, dx, fs, e, ha, hb⟩ g1 => ⟨a, dx, fs, e, g1.ex _ _ ha, sp_call hm hE hb H1 g1 Q' q⟩
theorem r_lcm {a b : Nat} (ha : a ≤ 1000000) (hb : b ≤ 1000000) (q : Q (.int (Nat.lcm a b : Nat)) kn n) : W c (rLcm [.int a, .int b]) kn n Q := fun H g _ k => ⟨a, b, rfl, ha, hb, k _ kn n H q g⟩
end
end AW

/-! max(list of ints, default=d); set(list of ints) -/
namespace L2
open PySem PySem.Spec PyProof.Rows PySem PySem.W
def rMaxDf (K : PySem.W.Frag) : List V → List V → Hp → VK → Prop := fun vs zs H Q => ∃ (a : Addr) (ns : List Int) (d : V), vs = [V.ref a] ∧ zs = [d] ∧ SqL K H a (ns.map V.int) ∧ (ns = [] → Q d H) ∧ ∀ m, m ∈ ns → (∀ y, y ∈ ns → y ≤ m) → Q (.int m) H
theorem fold_mem : ∀ (ns : List Int) (n : Int), ns.foldl max n ∈ n :: ns ∧ ∀ y ∈ n :: ns, y ≤ ns.foldl max n
  | [], n => ⟨.head _, fun y hy => by rw [List.mem_singleton.1 hy]; exact Int.le_refl _⟩
  | m :: r, n => by
    obtain ⟨h1, h2⟩ := fold_mem r (max n m)
    rw [List.foldl_cons]
    have hm := h2 (max n m) (.head _)
    refine ⟨?_, fun y hy => ?_⟩
    · rcases List.mem_cons.1 h1 with e | h
      · rw [e]
        rcases Int.le_total n m with z | z
        · rw [Int.max_eq_right z]; exact .tail _ (.head _)
        · rw [Int.max_eq_left z]; exact .head _
      · exact .tail _ (.tail _ h)
    · rcases List.mem_cons.1 hy with rfl | hy
      · exact Int.le_trans (Int.le_max_left _ _) hm
      · rcases List.mem_cons.1 hy with rfl | hy
        · exact Int.le_trans (Int.le_max_right _ _) hm
        · exact h2 y (.tail _ hy)
theorem alike_ints (ns : List Int) : AlikeAll (ns.map PyData.int) := by
  refine ⟨fun x hx y hy => ?_, fun x hx => ?_⟩
  · obtain ⟨i, _, rfl⟩ := List.mem_map.1 hx
    obtain ⟨j, _, rfl⟩ := List.mem_map.1 hy
    rfl
  · obtain ⟨i, _, rfl⟩ := List.mem_map.1 hx
    exact nofun
theorem depth_ints : ∀ ns : List Int, PyData.depthAll (ns.map PyData.int) = 0
  | [] => by simp [PyData.depthAll]
  | n :: r => by simp only [List.map_cons, PyData.depthAll, PyData.depth]; rw [depth_ints r]; rfl
theorem dpi : ∀ {K : PySem.W.Frag} {H : Hp} (ns : List Int), DpAll K H (ns.map V.int) (ns.map PyData.int)
  | _, _, [] => .nil
  | _, _, n :: r => .cons (.int n) (dpi r)
theorem cr_maxDf {X : Cx} (hc : X.calm = true) (hu : X.A.units + 64 < cLine) : CallRK X (.builtin "max") [Str.ofString "default"] (rMaxDf X.K) := by
  intro pins s σ H vs zs us ws Q I r rz h
  obtain ⟨a, ns, d, rfl, rfl, hs, h0, h1⟩ := h
  obtain rfl := Vals.ref1 r
  cases rz with
  | cons rd rt =>
    cases rt
    obtain ⟨its, rv, pl, hz⟩ := I.list hs
    obtain ⟨as, hr⟩ := Dp.readsAll I _ _ _ (dpi ns) rv
    refine max_list_default (I.ok.hd hc) pl.isList (by simpa using hr) (alike_ints ns) (by rw [depth_ints]; omega) (fun e h' tk hk => ?_) fun y ys i v h' tk bs e hv hrd hk => ?_
    · have e : ns = [] := by cases ns with | nil => rfl | cons => cases e
      exact ⟨d, H, I.kept hk, rd, h0 e⟩
    · cases ns with
      | nil => cases e
      | cons n r =>
        cases e
        rw [maxD_ints] at hrd
        obtain ⟨m1, m2⟩ := fold_mem r n
        refine ⟨.int (r.foldl max n), H, I.kept hk, ?_, h1 _ m1 m2⟩
        cases hrd
        exact ⟨_, rfl⟩
/-! ### set(list) -/
/-- a set that holds nothing yet -/
abbrev emptyO (w : World) : Obj := { cls := .type "set", dict := none, data := .set #[] 0 (.fresh 0 0 (!w.params.followText "set-order")) }
section
variable {P : Program} {w : World} {A : Around} {E : Value → Shared → Prop}
set_option maxHeartbeats 0 in
theorem init_list {s : Shared} {S l : Addr} {items : Array Value} {ns : List Int} {R : Fin → Shared → Prop} {E' : Value → Shared → Prop} (hh : A.handled = none) (hS : s.heap.get? S = some (emptyO w)) (hl : s.heap.IsList l items) (hi : IntsAre items.toList ns) (hb : ns.length + 1 < scanBound)
    (h : ∀ (h' : Heap) (tk c : Nat), SetR w h' S (fun j => decide (j ∈ ns)) c → c ≤ ns.length → (∀ b o, b ≠ S → s.heap.get? b = some o → h'.get? b = some o) → R (.done (.ret .none)) { s with heap := h', toks := tk }) :
    wpAny (model P w) A (Builtin.«set.__init__» ⟨[.ref S, .ref l], []⟩) R E' s := by
  have hT : s.TypeIs (.ref S) "set" := ⟨_, hS, rfl⟩
  obtain ⟨ol, hol, hcl, nl, hdl⟩ := id hl
  obtain ⟨ocls, odict, odata, oslots⟩ := ol
  simp only at hcl hdl
  subst hcl; subst hdl
  have x1 := F.sub_list_set
  have x2 := F.sub_list_frozenset
  have x3 : (Value.type "list" == Value.type "dict") = false := by decide
  unfold Builtin.«set.__init__» noKeywords Builtin.Frozenset.updateFrom
  generalize hPI : pyIter = PI
  wp_walk
  subst hPI
  refine wpAny_pyIter_list hl ?_
  refine wpAny_bind (wpAny_runValue ?_)
  clear x1 x2 x3
  have hlt := Heap.lt_size hol
  have hSl := Heap.lt_size hS
  have hne : l ≠ s.heap.objs.size := Nat.ne_of_lt hlt
  have hlS : l ≠ S := fun z => by
    rw [z, hS] at hol
    have e : Value.type "set" = Value.type "list" := congrArg Obj.cls (Option.some.inj hol)
    exact absurd (Value.type.inj e) (by decide)
  have hsz : items.size = ns.length := by
    have q := IntsAre.length hi
    rw [Array.length_toList] at q
    exact q
  have hval : ∀ (i : Nat) (v : Value), items[i]? = some v → ∃ k t, ns[i]? = some k ∧ v = .int k t := fun i v hv => by
    have hi2 : i < ns.length := by rw [← hsz]; exact (Array.getElem?_eq_some_iff.mp hv).1
    obtain ⟨t, e⟩ := PyProof.Rows.IntsAre.int_at hi i v (by rw [Array.getElem?_toList]; exact hv)
    exact ⟨ns[i], t, List.getElem?_eq_getElem hi2, by rw [e, List.getD_eq_getElem?_getD, List.getElem?_eq_getElem hi2]; rfl⟩
  have hSf : S ∉ [s.heap.objs.size, l] := by
    simp only [List.mem_cons, List.mem_singleton, List.not_mem_nil, or_false, not_or]
    exact ⟨Nat.ne_of_lt hSl, fun z => hlS z.symm⟩
  refine set_update_ints ((Walks.list (by simp [hh]) _ l hne items).toS) S hSf ns hsz hb hval (items.size - 0) 0 _ (by omega) (Nat.zero_le _) ⟨⟨_, Heap.get?_push_size _ rfl, rfl, rfl⟩, hl.push _⟩ ⟨0, Nat.le_refl 0, setR_new_at (Heap.get?_push_of_some _ hS)⟩ ?hR
  intro s' c hm hc hS'
  obtain ⟨h', g2, d', tk', os'⟩ := s'
  have eg : g2 = s.gens := hm.gens
  have ed : d' = s.drawn := hm.drawn
  have eo : os' = s.os := hm.os
  subst eg; subst ed; subst eo
  show wpAny _ _ _ _ _ _
  refine wpAny_pure ?_
  show wpAny _ _ (ret Value.none) _ _ _
  refine wpAny_pure (h h' tk' c hS' (by rw [← hsz]; exact hc) fun b o hb e => ?_)
  have hb2 : b ≠ s.heap.objs.size := Nat.ne_of_lt (Heap.lt_size e)
  exact hm.heap b o (by simp only [List.mem_cons, List.mem_singleton, List.not_mem_nil, or_false, not_or]; exact ⟨hb, hb2⟩) (Heap.get?_push_of_some _ e)
set_option maxHeartbeats 0 in
/-- set(l) of a list of ints -/
theorem call_set_ints {s : Shared} {l : Addr} {items : Array Value} {ns : List Int} {Q : Value → Shared → Prop} (hh : A.handled = none) (hl : s.heap.IsList l items) (hi : IntsAre items.toList ns) (hb : ns.length + 1 < scanBound)
    (h : ∀ (h' : Heap) (tk c : Nat), SetR w h' s.heap.objs.size (fun j => decide (j ∈ ns)) c → c ≤ ns.length → (∀ b o, s.heap.get? b = some o → h'.get? b = some o) → Q (.ref s.heap.objs.size) { s with heap := h', toks := tk }) :
    wpAny (model P w) A (call (.type "set") [.ref l]) Q E s := by
  obtain ⟨c, tl, hmro⟩ := F.called_set.mro
  have hmade := F.called_set.made
  have hsub := F.called_set.sub
  refine wpAny_call (codeAny_of_tree ?_)
  show wpAny _ _ (callAny (.type "set") _) _ _ _
  refine wpAny_pure ⟨Code.quiet_builtin _ (by decide +kernel), codeAny_builtin F.entry_type_call ?_⟩
  rw [Around.under_plain (weight_type_call_type "set" [.ref l] []) rfl]
  have h1 := F.called_set.notType
  have h2 := F.called_set.canCreate
  have h3 := F.typeCall_set_1 (.ref l)
  repeat (any_goals (first | assumption | wp_step))
  refine codeAny_mono (code_set_led1 (.ref l) (E := E) (Q₁ := fun obj s₁ => obj = .ref s.heap.objs.size ∧ s₁ = { s with heap := s.heap.push (emptyO w) }) ⟨rfl, rfl⟩) fun r s₁ hr => ?_
  rcases r with e | fl
  · exact hr
  rcases fl with _ | _ | _ | obj
  all_goals first | exact hr.elim | skip
  obtain ⟨rfl, rfl⟩ := hr
  have hS : (s.heap.push (emptyO w)).get? s.heap.objs.size = some (emptyO w) := Heap.get?_push_size _ rfl
  have hT : Shared.TypeIs { s with heap := s.heap.push (emptyO w) } (.ref s.heap.objs.size) "set" := ⟨_, hS, rfl⟩
  have i1 := F.called_set.init.lookup
  have i2 := F.called_set.init.bind (.ref s.heap.objs.size)
  repeat (any_goals (first | assumption | wp_step))
  refine codeAny_mono (codeAny_call_builtin (R := wants (fun r s₂ => r = .none ∧ ∃ h' tk n, s₂ = { s with heap := h', toks := tk } ∧ SetR w h' s.heap.objs.size (fun j => decide (j ∈ ns)) n ∧ n ≤ ns.length ∧
      (∀ b o, s.heap.get? b = some o → h'.get? b = some o)) E) F.called_set.init.plain F.entry_set_init (check_set_init_1 hT ?_)) fun r₂ s₂ hr₂ => ?_
  · refine init_list (by simp [hh]) hS (hl.push _) hi hb fun h' tk n hn hc hk => ?_
    exact ⟨rfl, h', tk, n, rfl, hn, hc, fun b o e => hk b o (Nat.ne_of_lt (Heap.lt_size e)) (Heap.get?_push_of_some _ e)⟩
  · rcases r₂ with e | fl
    · exact hr₂
    rcases fl with _ | _ | _ | r
    all_goals first | exact hr₂.elim | skip
    obtain ⟨rfl, h', tk, n, rfl, hn, hc, hk⟩ := hr₂
    repeat (any_goals (first | assumption | wp_step))
    exact h _ _ _ hn hc hk
end
def rSetFromL (K : PySem.W.Frag) (w : World) : List V → Hp → VK → Prop := fun vs H Q => ∃ (l : Addr) (ns : List Int), vs = [.ref l] ∧ SqL K H l (ns.map V.int) ∧ ns.length ≤ 1000 ∧ ∀ a n, H a = none → n ≤ ns.length → Q (.ref a) (upd H a (SetO w a (fun k => decide (k ∈ ns)) n))
theorem cr_setL {X : Cx} (hc : X.calm = true) : CallR X (.type "set") (rSetFromL X.K X.w) := by
  intro pins s σ H vs us Q I r h
  obtain ⟨l, ns, rfl, hs, hl, q⟩ := h
  obtain rfl := Vals.ref1 r
  obtain ⟨its, rv, pl, hz⟩ := I.list hs
  refine call_set_ints (I.ok.hd hc) pl.isList (by simpa using ints_of_vals rv) (by unfold scanBound; omega) fun h' tk n R hn hk => ?_
  exact ⟨.ref _, upd H s.heap.objs.size (SetO X.w s.heap.objs.size (fun k => decide (k ∈ ns)) n), I.laid (t' := tk) hk (Nat.le_refl _) (setO_new R), rfl, q _ n (I.hok.fresh (Nat.le_refl _)) hn⟩
end L2
namespace AW
open PySem PySem.Spec PyProof.Rows L2 LamX
section
variable {c : Cw} {kn : Hp} {n : Nat} {σ : L2.St} {Q : V → Hp → Nat → Prop} {K : PySem.W.Frag} {w : World}
theorem r_setL {l : Addr} {ns : List Int} (h : kn l = some (.lst (ns.map V.int))) (hl : ns.length ≤ 1000) (q : ∀ a m, kn a = none → m ≤ ns.length → Q (.ref a) (upd kn a (SetO w a (fun k => decide (k ∈ ns)) m)) n) : W c (rSetFromL K w [.ref l]) kn n Q :=
  fun H g Q' k => ⟨l, ns, rfl, sql (g.ex _ _ h), hl, fun a m ha hm => k _ _ _ _ (q a m (g.free ha) hm) (g.new ha)⟩
theorem r_sortSet {a : Addr} {S : Int → Bool} {m : Nat} (h : kn a = some (SetO w a S m)) (hm : m < 64) (q : ∀ (ns : List Int) (p : Addr), ns.Pairwise (· < ·) → (∀ k : Int, k ∈ ns ↔ S k = true) → kn p = none → Q (.ref p) (upd kn p (.lst (ns.map V.int))) n) : W c (rSortedSet w [.ref a]) kn n Q :=
  fun H g Q' k => ⟨a, S, m, rfl, g.ex _ _ h, hm, fun ns p h1 h2 _ hp => k _ _ _ _ (q ns p h1 h2 (g.free hp)) (g.new hp)⟩
theorem w_ckw {r : List V → List V → Hp → VK → Prop} {t tk : TA} (h : W c (t σ) kn n fun vs kn1 n1 => W c (tk σ) kn1 n1 fun zs kn2 n2 => W c (r vs zs) kn2 n2 Q) : W c (tCKw r t tk σ) kn n Q :=
  fun H g Q' q => h H g _ fun vs kn1 n1 H1 h1 g1 => h1 H1 g1 _ fun zs kn2 n2 H2 h2 g2 => h2 H2 g2 Q' q
theorem r_maxDf {a : Addr} {ns : List Int} {d : V} (h : kn a = some (.lst (ns.map V.int))) (q0 : ns = [] → Q d kn n) (q : ∀ m, m ∈ ns → (∀ y, y ∈ ns → y ≤ m) → Q (.int m) kn n) : W c (rMaxDf K [.ref a] [d]) kn n Q :=
  fun H g Q' k => ⟨a, ns, d, rfl, rfl, sql (g.ex _ _ h), fun e => k _ _ _ _ (q0 e) g, fun m h1 h2 => k _ _ _ _ (q m h1 h2) g⟩
end
end AW

/-! try .. except C as n: .. except D: ..: the first clause takes all errors. -/
namespace L2
open PySem PySem.Spec PyProof.Rows
section
variable {X : Cx} {x n : Str} {c : Value} {i : Nat} {body suite : List Stmt} {b₀ : Stmt} {np pos pos' : Pos} {tb : WX → TS} {ts : Addr → Value → Option Addr → TS}
theorem ps_try_keepR {hds : List ExceptHandler} (hex : X.ex = []) (hs : X.stack = X.env :: X.outer) (hf : X.env.frame = some X.env.locals) (hN : X.N.Nodup) (hi : X.N[i]? = some n) (hln : X.env.kindOf n = some .local) (hc : Names X x c)
    (hb : ∀ (W : WX) (pn : List (Addr × Obj)) (xe : Value → Shared → Prop), Takes (X.tr pn xe) W → PassesOwn (model X.prog X.w) X.A X.env xe → PSs (X.tr pn xe) body (tb W))
    (hsu : ∀ (a : Addr) (oe : Obj) (cls : Value) (d : Option Addr) (pn : List (Addr × Obj)), Zc cls d oe → (∃ vs, oe.data = .fields vs) → PSs (X.suite a ((a, oe) :: pn)) (b₀ :: suite) (ts a cls d)) :
    PS X (.Try body (.ExceptHandler (some (.Name x np)) (some n) (b₀ :: suite) pos' :: hds) [] [] pos) (fun D σ H => tb (wKeep X.K c i ts D) D σ H) := by
  refine ⟨fun pins s σ H D I h => ?_⟩
  have ok := I.ok
  have frm : X.A.frames = some (X.env :: X.outer) := by rw [ok.frames, hs]
  refine wpAny_Try_except ?_
  refine wpAny_mono ((hb (wKeep X.K c i ts D) (X.pn ++ pins) (fun e s₁ => wpAny (model X.prog X.w) X.A (noteFrame e X.env) (fun _ s₂ => wpAny (model X.prog X.w) X.A (setFlight e none)
    (fun _ s₃ => wpAny (model X.prog X.w) X.A (handleBy e X.env (.ExceptHandler (some (.Name x np)) (some n) (b₀ :: suite) pos' :: hds)) (SP X pins D) X.xe s₃) X.xe s₂) X.xe s₁) (fun u s' xx => ?_) PassesOwn.looking).run [] s σ H D (I.toTry _) h) (fun f s1 hsp => ?_) (fun _ _ z => z)
  · obtain ⟨a, B, sI, pins', σ', H', cls, d, rfl, J', nb, up, sky, na, os, ag, hyes1, hyes⟩ := xx
    have J : Inv X pins σ' H' sI := J'.ofTry ok
    show wpAny (model X.prog X.w) X.A (noteFrame (.ref a) X.env) _ _ _
    refine Sky.land Zc.steady frm hf (show Sky B (X.env :: X.outer) a (Zc cls d) X.env.locals s'.heap by rw [← hs]; exact sky) fun h3 fl3 up3 => ?_
    have J3 : Inv X pins σ' H' { s' with heap := h3 } := J.landed nb fl3.1 (up.trans up3) os ag
    obtain ⟨oe3, vs3, he3, hz3, hd3⟩ := fl3.there
    have nfr : a ∉ frs (X.env :: X.outer) := fun hm => by
      obtain ⟨_, o', e', hnf⟩ := fl3.2.2.1.mem hm
      rw [he3] at e'
      cases e'
      exact hnf _ hd3
    have nL : a ≠ X.env.locals := fun z => nfr (List.mem_filterMap.mpr ⟨X.env, List.mem_cons_self, by rw [hf, z]⟩)
    have nF : a ∉ X.fs := fun hm => by
      obtain ⟨e, he, q⟩ := List.mem_filterMap.mp hm
      exact nfr (List.mem_filterMap.mpr ⟨e, List.mem_cons_of_mem _ he, q⟩)
    have inB : ∀ {b : Addr} {o : Obj}, sI.heap.get? b = some o → b ∉ frs X.stack → b ≠ a := fun {b o} e hb z => by
      have q := nb b o e hb
      rw [z, fl3.2.1] at q
      cases q
    have n0 : X.s_0.heap.get? a = none := by
      cases e : X.s_0.heap.get? a with
      | none => rfl
      | some o =>
        obtain ⟨o', e'⟩ := J.base.there a o e (by rw [hex]; exact fun z => nomatch z)
        exact absurd rfl (inB e' (by rw [hs]; exact nfr))
    have npin : ∀ p ∈ X.pn ++ pins, p.1 ≠ a := fun p hp => by
      obtain ⟨e, _, n1, n2, _⟩ := J.pin p hp
      exact inB e fun hm => (List.mem_cons.mp (J.stkSub _ hm)).elim n1 n2
    refine wpAny_handleBy_cons (codeAny_handlers_test ?_) (by intro q; cases q)
    have LT : PySem.W.Looks (model X.prog X.w) h3 (typeOf (.ref a)) cls := fun A Q E s k q => wpAny_typeOf_ref (k _ _ he3) (by rw [hz3.1]; exact q)
    have S3 := J3.suite he3 hd3 na nL nF
    have test : ∀ {Q : Value → Shared → Prop} {E : Value → Shared → Prop}, Q c { s' with heap := h3 } → wpAny (model X.prog X.w) (X.A.mark (some (.ref a))) (eval (.Name x np) X.env) Q E { s' with heap := h3 } := fun {Q E} q => by
      obtain ⟨g1, g2, g3 | ⟨g3, g4, g5⟩⟩ := hc
      · exact ld_glob (X := X.suite a ((a, oe3) :: (X.pn ++ pins))) S3 g1 g3 q g2
      · exact ld_blt (X := X.suite a ((a, oe3) :: (X.pn ++ pins))) S3 g1 g3 g4 q g5 g2
    refine test ((PySem.W.exm_one (M := model X.prog X.w) (J3.kIn) LT hyes1).here ?_)
    refine codeAny_handlers_suite_as ?_
    refine HandSPX.lands_againZ fl3 fun h4 fl4 up4 => ?_
    have J4 : Inv X pins σ' H' { s' with heap := h4 } := J.landed nb fl4.1 ((up.trans up3).trans up4) os ag
    obtain ⟨oe4, vs4, he4, hz4, hd4⟩ := fl4.there
    refine store_ok (X := X.suite a ((a, oe4) :: (X.pn ++ pins))) (v := .ref a) (J4.suite he4 hd4 na nL nF) hN hi (.inl hln) rfl (fun s5 S5 => ?_) (.inr hln)
    refine wpAny_mono ((hsu a oe4 cls d (X.pn ++ pins) hz4 ⟨_, hd4⟩).run [] s5 _ H' _ S5 (hyes a na)) (fun f s6 hsp => ?_) (fun _ _ z => False.elim z)
    have fin : ∀ {σ6 : St} {H6 : Hp} {Q : Shared → Prop}, Inv (X.suite a ((a, oe4) :: (X.pn ++ pins))) [] σ6 H6 s6 → (∀ s7, Inv X pins (σ6.set i none) (upd H6 a (exh a cls d)) s7 → Q s7) →
        wpAny (model X.prog X.w) X.A (do bindName X.env n .none; unbindBehindTheSuite X.env n pos') (fun _ s7 => Q s7) X.xe s6 := fun {σ6 H6 Q} S6 hq => gone_ok (S6.unsuiteK ok) hN hi hln fun s7 J7 => hq s7 (J7.track hd4 hz4 n0 npin)
    cases f with
    | ret u =>
      obtain ⟨v6, σ6, H6, S6, r6, q6⟩ := hsp
      exact fin S6 fun s7 J7 => ⟨_, _, _, J7, r6, q6⟩
    | next =>
      obtain ⟨σ6, H6, S6, q6⟩ := hsp
      exact fin S6 fun s7 J7 => ⟨_, _, J7, q6⟩
    | cont =>
      obtain ⟨σ6, H6, S6, q6⟩ := hsp
      exact fin S6 fun s7 J7 => ⟨_, _, J7, q6⟩
    | brk =>
      obtain ⟨σ6, H6, S6, q6⟩ := hsp
      exact fin S6 fun s7 J7 => ⟨_, _, J7, q6⟩
  · cases f with
    | ret u =>
      obtain ⟨v, σ', H', J', r, q⟩ := hsp
      exact ⟨v, σ', H', J'.ofTry ok, r, q⟩
    | next =>
      obtain ⟨σ', H', J', q⟩ := hsp
      exact wpAny_execs_nil ⟨σ', H', J'.ofTry ok, q⟩
    | cont =>
      obtain ⟨σ', H', J', q⟩ := hsp
      exact ⟨σ', H', J'.ofTry ok, q⟩
    | brk =>
      obtain ⟨σ', H', J', q⟩ := hsp
      exact ⟨σ', H', J'.ofTry ok, q⟩
end
end L2

/-! while; any(tuple); list.clear; sorted(list of ints); try .. except C as e (all errors taken) of a statement, its suite returns -/
namespace L2
open PySem PySem.Spec PyProof.Rows
def rAnyT (K : PySem.W.Frag) : List V → Hp → VK → Prop := fun vs H Q => ∃ (a : Addr) (bs : List Bool), vs = [V.ref a] ∧ SqT K H a (bs.map V.bl) ∧ Q (.bl (bs.any id)) H
theorem dpb : ∀ {K : PySem.W.Frag} {H : Hp} (bs : List Bool), DpAll K H (bs.map V.bl) (bs.map PyData.bool)
  | _, _, [] => .nil
  | _, _, b :: r => .cons (.bl b) (dpb r)
theorem plain_bls : ∀ bs : List Bool, PyData.plainAll (bs.map PyData.bool) = true
  | [] => by simp [PyData.plainAll]
  | b :: r => by simp only [List.map_cons, PyData.plainAll, PyData.plain, Bool.true_and]; exact plain_bls r
theorem any_bls (bs : List Bool) : (bs.map PyData.bool).any PyData.truthy = bs.any id := by
  rw [List.any_map]
  congr 1
theorem cr_anyT {X : Cx} (hc : X.calm = true) : CallR X (.builtin "any") (rAnyT X.K) := by
  intro pins s σ H vs us Q I r h
  obtain ⟨a, bs, rfl, hs, q⟩ := h
  obtain rfl := Vals.ref1 r
  obtain ⟨its, rv, pl, hz⟩ := I.tuple hs
  obtain ⟨as, hr⟩ := Dp.readsAll I _ _ _ (dpb bs) rv
  refine PySem.W.any_tuple_data (I.ok.hd hc) pl (by simpa using hr) (plain_bls bs) (fun x hx => ?_) fun h' tk hk => ?_
  · obtain ⟨b, _, rfl⟩ := List.mem_map.1 hx
    trivial
  · rw [any_bls]
    exact ⟨.bl _, H, I.kept hk, rfl, q⟩
end L2
namespace AW
open PySem PySem.Spec PyProof.Rows L2 LamX
section
variable {c : Cw} {kn : Hp} {n : Nat} {σ : L2.St} {Q : V → Hp → Nat → Prop} {K : PySem.W.Frag} {D : AE}
theorem r_anyT {a : Addr} {bs : List Bool} (h : kn a = some (.tup (bs.map V.bl))) (q : Q (.bl (bs.any id)) kn n) : W c (rAnyT K [.ref a]) kn n Q := fun H g _ k => ⟨a, bs, rfl, sqt (g.ex _ _ h), k _ kn n H q g⟩
theorem r_sortI {a : Addr} {ns : List Int} (h : kn a = some (.lst (ns.map V.int))) (q : ∀ (ns' : List Int) (p : Addr), ns'.Perm ns → ns'.Pairwise (· ≤ ·) → kn p = none → Q (.ref p) (upd kn p (.lst (ns'.map V.int))) n) : W c (rSortedI K [.ref a]) kn n Q :=
  fun H g Q' k => ⟨a, ns, rfl, sql (g.ex _ _ h), fun ns' p h1 h2 hp => k _ _ _ _ (q ns' p h1 h2 (g.free hp)) (g.new hp)⟩
theorem w_clear {i : Nat} {l : Addr} {xs : List V} (hv : σ[i]? = some (some (.ref l))) (h0 : kn l = some (.lst xs)) (q : Q .non (upd kn l (.lst [])) n) : W c (tBM0 K "list" rClear (tVar i) σ) kn n Q :=
  fun H g Q' k => ⟨.ref l, hv, .inl ⟨rfl, _, sql (g.ex _ _ h0)⟩, l, xs, rfl, rfl, g.ex _ _ h0, k _ _ _ _ q (g.put h0 rfl)⟩
/-- while: Pv what holds at each turn, its measure -/
theorem s_while {t : TT} {tb : TS} (Pv : Nat → L2.St → Hp → Nat → Prop) (m0 : Nat) (h0 : Pv m0 σ kn n)
    (h : ∀ m σ1 kn1 n1, Pv m σ1 kn1 n1 → W c (t σ1) kn1 n1 fun b kn2 n2 => if b = true then WS c tb { D with nx := fun σ3 kn3 n3 => ∃ m', m' < m ∧ Pv m' σ3 kn3 n3, ct := fun σ3 kn3 n3 => ∃ m', m' < m ∧ Pv m' σ3 kn3 n3, bk := D.nx } σ1 kn2 n2 else D.nx σ1 kn2 n2) :
    WS c (tWhile t tb) D σ kn n := fun H g D' f => by
  refine ⟨fun m σ1 H1 => ∃ kn1 n1, Pv m σ1 kn1 n1 ∧ Good c kn1 n1 H1, ⟨m0, kn, n, h0, g⟩, ?_⟩
  rintro m σ1 H1 ⟨kn1, n1, hp, g1⟩
  refine h m σ1 kn1 n1 hp H1 g1 _ fun b kn2 n2 H2 hb g2 => ?_
  cases b with
  | false => exact f.nx _ _ _ _ hb g2
  | true =>
    rw [if_pos rfl] at hb ⊢
    refine ⟨fun σ3 H3 => ∃ kn3 n3, (∃ m', m' < m ∧ Pv m' σ3 kn3 n3) ∧ Good c kn3 n3 H3, ?_, ?_⟩
    · rintro σ' H' ⟨kn3, n3, ⟨m', l, hp'⟩, g3⟩
      exact ⟨m', l, kn3, n3, hp', g3⟩
    · exact hb H2 g2 _ ⟨fun σ3 k3 n3 H3 z g3 => ⟨k3, n3, z, g3⟩, fun v k3 n3 H3 z g3 => f.rt _ _ _ _ z g3, fun σ3 k3 n3 H3 z g3 => f.nx _ _ _ _ z g3, fun σ3 k3 n3 H3 z g3 => ⟨k3, n3, z, g3⟩⟩
/-- an object laid where nothing stood, behind what changed nothing -/
theorem Good.lay {kn1 kn' H2 H' : Hp} {n1 m : Nat} {a : Addr} {o : HO} (g2 : AW.Good c kn1 n1 H2) (ha : H2 a = none) (e : Ext kn1 kn') (g' : AW.Good (pureC kn1 H2) kn' m H') : AW.Good c kn1 n1 (upd H' a o) := by
  refine ⟨fun x u hx => ?_, c.step n1 kn1 H2 (upd H' a o) g2.inv g2.res fun x u hx hk => ?_, g2.res, g2.nt⟩
  · rw [upd_ne (fun z => by have := g2.ex _ _ hx; rw [z, ha] at this; cases this)]
    exact g'.ex _ _ (e _ _ hx)
  · rw [upd_ne (fun z => by rw [z, ha] at hx; cases hx)]
    exact g'.inv x u hx hk
/-- try: a statement that may raise; the clause takes all its errors and its suite returns -/
theorem s_keep {cV : Value} {i m : Nat} {ts : Addr → Value → Option Addr → TS} {te : XK → TE} (EA : EAK)
    (h : ∀ E, ErrOk c EA E → W c (te E σ) kn n fun _ kn1 n1 => D.nx σ kn1 n1)
    (hx : ∀ cls d kn' n', EA cls d kn' n' → PySem.W.exmOne K cls cV = some true ∧ ∀ (σ' : L2.St) (a : Addr) (H' : Hp), σ'.length = m → kn' a = none →
      WS (pureC kn' H') (ts a cls d) { nx := fun _ _ _ => False, rt := fun v k _ => Ext kn' k ∧ D.rt v kn' n' } (σ'.set i (some (.ref a))) kn' 0) :
    WS c (fun De σ H => tDrop (te (fun cls d H' => ∀ σ' : L2.St, List.length σ' = m → wKeep K cV i ts De cls d σ' H')) De σ H) D σ kn n := fun H g D' f => by
  refine h _ (fun cls d kn' n' H' he g' => ?_) H g _ fun v kn1 n1 H1 h1 g1 => f.nx σ kn1 n1 H1 h1 g1
  intro σ' hl
  obtain ⟨h1, h2⟩ := hx cls d kn' n' he
  refine ⟨h1, fun a ha => ?_⟩
  refine h2 σ' a H' hl (g'.free ha) H' (pure_start g'.ex g'.nt) _ ⟨fun _ _ _ _ z _ => z.elim, fun v k m' H'' hr g'' => ?_, fun _ _ _ _ z _ => z.elim, fun _ _ _ _ z _ => z.elim⟩
  exact f.rt v kn' n' _ hr.2 (Good.lay g' ha hr.1 g'')
end
end AW

/-! t.count(b) of a tuple of truth values; divmod as the library has it (L2.call_divmod). -/
namespace L2
open PySem PySem.Spec PyProof.Rows
section
variable {X : Cx}
/-- t.count(b) -/
def rCntT (K : PySem.W.Frag) : V → List V → Hp → VK → Prop := fun x xs H Q => ∃ (p : Addr) (bs : List Bool) (b : Bool), x = .ref p ∧ xs = [.bl b] ∧ SqT K H p (bs.map V.bl) ∧ Q (.int (bs.count b : Nat)) H
theorem cnt_bools {b : Bool} : ∀ {bs : List Bool} {us : List Value}, Vals (bs.map V.bl) us → us.countP (PpSet.isB b) = bs.count b ∧ ∀ y ∈ us, ∃ c, y = .bool c
  | [], _, r => by cases r; exact ⟨rfl, fun y hy => by cases hy⟩
  | c :: bs, _, r => by
    cases r with
    | cons r1 r2 =>
      cases (show _ = Value.bool c from r1)
      obtain ⟨h1, h2⟩ := cnt_bools (b := b) r2
      refine ⟨?_, fun y hy => ?_⟩
      · rw [List.countP_cons, List.count_cons, h1]
        rfl
      · rcases List.mem_cons.1 hy with rfl | hy
        · exact ⟨c, rfl⟩
        · exact h2 y hy
theorem mt_tcnt : MtR X "tuple.count" (rCntT X.K) := by
  intro pins s σ H x xs v us Q I rx rxs h
  obtain ⟨p, bs, b, rfl, rfl, hs, q⟩ := h
  cases rx
  obtain ⟨u, rfl, ru⟩ := rxs.one
  cases (show u = Value.bool b from ru)
  obtain ⟨its, rv, ⟨⟨cls, dd, data, sl⟩, ho, hc, n, hd⟩, hlen⟩ := I.tuple hs
  simp only at hc hd
  subst hc hd
  obtain ⟨hcnt, hb⟩ := cnt_bools (b := b) rv
  refine call_meets PySem.F.slot_tuple_count ⟨_, ho, rfl⟩ PySem.F.entry_tuple_count (PySem.F.args_tuple_count_2 _ _)
    (SeqAt.tuple_countAt p its.toArray n dd sl (.bool b) (PpSet.isB b)) ⟨ho, fun y hy => ?_, ?_⟩
  · obtain ⟨c, rfl⟩ := hb y (by simpa using hy)
    exact SeqAt.EqAt.bool_bool c b
  · refine ⟨.int (bs.count b : Nat), H, I.tok _, ⟨s.toks, ?_⟩, q⟩
    show Value.int ((its.toArray.toList.countP (PpSet.isB b) : Nat) : Int) s.toks = _
    rw [show its.toArray.toList = its from rfl, hcnt]
end
/-- t[lo:hi], not the whole of it; what is made is known to the object -/
def rSlF (K : PySem.W.Frag) : V → Option Int → Option Int → Hp → VK → Prop := fun x lo hi H Q => ∃ a xs, x = .ref a ∧ SqT K H a xs ∧
  ¬ (HT.sIx xs.length 0 lo = 0 ∧ HT.sIx xs.length xs.length hi = xs.length) ∧ ∀ p (o : Obj), o.cls = .type "tuple" → o.dict = none → H p = none → Q (.ref p) (upd H p (.frz o (.tup (cutV xs lo hi))))
theorem sl_tupF : SlR X (rSlF X.K) := by
  intro pins s σ H x v vl vu lo hi sl Q I rx hs pl pu h
  obtain ⟨a, xs, rfl, hx, hw, q⟩ := h
  cases rx
  obtain ⟨its, r, ht, hz⟩ := I.tuple hx
  have hlen : its.toArray.size = xs.length := by rw [List.size_toArray]; exact r.length.symm
  refine ⟨"tuple", _, PyProof.Rows.slot_tuple_getitem.lookup, ht.typeIs, ?_⟩
  refine HT.getItem_tuple_cut ht hs pl pu (by rw [hlen]; exact hw) ?_ (by rw [hlen]; exact hz)
  rw [hlen]
  refine ⟨.ref s.heap.objs.size, _, I.laid (t' := s.toks) (o := .frz _ (.tup (cutV xs lo hi))) (fun b ob q => Heap.get?_push_of_some _ q) (Nat.le_refl _) ⟨Heap.get?_push_size _ rfl, ?_⟩, rfl, q _ _ rfl rfl (I.hok.fresh (Nat.le_refl _))⟩
  exact ⟨Nat.le_trans (cutV_length xs lo hi) hz, _, (r.drop (HT.sIx xs.length 0 lo)).take (HT.sIx xs.length xs.length hi - HT.sIx xs.length 0 lo), IsTup.new _ _⟩
/-- a method of a tuple that is known to the object -/
def tBMF (K : PySem.W.Frag) (r : V → List V → Hp → VK → Prop) (to : TE) (t : TA) : TE := fun σ H Q => to σ H fun x H1 => (∃ p o u, x = .ref p ∧ H1 p = some (.frz o u) ∧ o.cls = .type "tuple" ∧ o.dict = none) ∧ t σ H1 fun xs H2 => r x xs H2 Q
theorem pe_bmF {o e : Expr} {es : List Expr} {to : TE} {t : TA} {name : Str} {apos cpos : Pos} {id : String} {r : V → List V → Hp → VK → Prop} (pa : PlainAttrs "tuple") (slot : Slot "tuple" name id) (hty : typeOf (.builtin id) = pure (.type "method_descriptor")) (hm : MtR X id r) (ho : PE X o to) (ha : PA X (e :: es) t)
    (hbase : attributeBase o name X.env (eval o X.env) = eval o X.env := by rfl)
    (hfew : ((backTo cpos (starEach (e :: es) X.env)).all (fun x => !x.1) && (backToKw cpos (keywordEach [] X.env)).all (fun x => x.1.isSome)
      && decide ((e :: es).length + ([] : List Keyword).length + (if ([] : List Keyword).isEmpty then 0 else 1) < 30)) = true := by rfl)
    (hline : (apos.endLine == cpos.line) = true := by rfl) (hs : starEach (e :: es) X.env = (false, eval e X.env) :: starEach es X.env := by rfl) (hplain : (backTo cpos (starEach es X.env)).any (·.1) = false := by rfl) :
    PE X (.Call (.Attribute o name apos) (e :: es) [] cpos) (tBMF X.K r to t) := by
  refine ⟨fun pins s σ H Q I h => ?_⟩
  refine wpAny_Call_method_late hbase hfew hline rfl (thn (ho.run pins s σ H _ I h) fun v s1 ⟨x, H1, I1, r1, ⟨p, ob, u, ex, hp, hc, hd⟩, q1⟩ => ?_)
  subst ex
  cases r1
  have hg : s1.heap.get? p = some ob := (show ObjOk X.prog X.w H1 s1.heap p (.frz ob u) from I1.hok p _ hp).1
  refine ⟨"tuple", id, pa, slot, hty, ⟨ob, hg, hc⟩, (fun a e => by cases e; exact ⟨ob, hg, hd⟩), ?_⟩
  have hA := ha.run cpos pins s1 σ H1 _ I1 q1
  rw [hs] at hA ⊢
  refine Calls.callWith_builtin (by show (false || (backTo cpos (starEach es X.env)).any (·.1)) = false; rw [hplain] <;> rfl) (Calls.evalArgs_plain ?_)
  exact thn hA fun us s2 ⟨vs, H2, I2, r2, q2⟩ => hm pins s2 σ H2 (.ref p) vs (.ref p) us Q I2 rfl r2 q2
end L2
namespace AW
open PySem PySem.Spec PyProof.Rows L2
section
variable {c : Cw} {kn : Hp} {n : Nat} {σ : L2.St} {Q : V → Hp → Nat → Prop} {K : PySem.W.Frag}
theorem r_tcnt {p : Addr} {bs : List Bool} {b : Bool} (h : kn p = some (.tup (bs.map V.bl))) (q : Q (.int (bs.count b : Nat)) kn n) : W c (rCntT K (.ref p) [.bl b]) kn n Q :=
  fun H g _ k => ⟨p, bs, b, rfl, rfl, sqt (g.ex _ _ h), k _ kn n H q g⟩
theorem r_slF {p : Addr} {xs : List V} {lo hi : Option Int} (h : kn p = some (.tup xs)) (hw : ¬ (HT.sIx xs.length 0 lo = 0 ∧ HT.sIx xs.length xs.length hi = xs.length)) (q : ∀ l (o : Obj), o.cls = .type "tuple" → o.dict = none → kn l = none → Q (.ref l) (upd kn l (.frz o (.tup (cutV xs lo hi)))) n) : W c (rSlF K (.ref p) lo hi) kn n Q :=
  fun H g _ k => ⟨p, xs, rfl, sqt (g.ex _ _ h), hw, fun l o h1 h2 hl => k _ _ _ _ (q l o h1 h2 (g.free hl)) (g.new hl)⟩
/-- t.count(b) of a tuple that was just cut -/
theorem w_tcnt {to : TE} {t : TA} (h : W c (to σ) kn n fun x kn1 n1 => ∃ (p : Addr) (o : Obj) (bs : List Bool), x = .ref p ∧ kn1 p = some (.frz o (.tup (bs.map V.bl))) ∧ o.cls = .type "tuple" ∧ o.dict = none ∧ W c (t σ) kn1 n1 fun xs kn2 n2 => ∃ b, xs = [.bl b] ∧ kn2 p = some (.frz o (.tup (bs.map V.bl))) ∧ Q (.int (bs.count b : Nat)) kn2 n2) : W c (tBMF K (rCntT K) to t σ) kn n Q :=
  fun H g Q' k => h H g _ fun x kn1 n1 H1 ⟨p, o, bs, ex, hp, hc, hd, h1⟩ g1 => ⟨⟨p, o, _, ex, g1.ex _ _ hp, hc, hd⟩, h1 H1 g1 _ fun xs kn2 n2 H2 ⟨b, e2, hp2, h2⟩ g2 => ⟨p, bs, b, ex, e2, .inl (.inr ⟨o, g2.ex _ _ hp2⟩), k _ _ _ _ h2 g2⟩⟩
/-- divmod -/
theorem r_divmod {i j : Int} (h : CDiv i j) (q : ∀ p, kn p = none → Q (.ref p) (upd kn p (.tup [.int (i / j), .int (i % j)])) n) : W c ((fun xs H Q => ∃ i j, xs = [V.int i, .int j] ∧ CDiv i j ∧ ∀ p, H p = none → Q (.ref p) (upd H p (.tup [.int (i / j), .int (i % j)])) : List V → Hp → VK → Prop) [.int i, .int j]) kn n Q :=
  fun H g _ k => ⟨i, j, rfl, h, fun p hp => k _ _ _ _ (q p (g.free hp)) (g.new hp)⟩
end
end AW

/-! A generator def whose run hands out nothing (its loops go over what is empty): in a for, in a comprehension. -/
namespace L2
open PySem PySem.Spec PyProof.Rows GenW
/-- the end of such a run: nothing handed out; what is at pp stands as it stood -/
def EndE (P : Program) (w : World) (fr : List Env) (G : Hp) (sc : Shared) (pp : List (Addr × Obj)) (C : Hp → Prop) : GenEnd := fun _ _ r z =>
  (r = .ok (.ret .none) ∨ r = .ok .next) ∧ ∃ G', z.os = sc.os ∧ AllBare z.gens ∧ Un (frs fr) [] G G' sc.heap z.heap ∧ HOk P w G' z.heap ∧
    (∀ p ∈ pp, z.heap.get? p.1 = some p.2 ∧ G' p.1 = none) ∧ C G'
def NoY : Protocol := fun _ _ _ _ _ => False
/-- what the call gives: a generator that has not begun -/
structure MadeE (P : Program) (w : World) (k : Nat) (fr : List Env) (G : Hp) (sc : Shared) (C : Hp → Prop) (a : Addr) (g : Nat) (z : Shared) : Prop where
  ge : sc.heap.objs.size ≤ a
  lt : a < z.heap.objs.size
  gen : z.heap.IsGen a g
  os : z.os = sc.os
  bare : AllBare z.gens
  lim : z.heap.NoLimit
  keep : ∀ b u, sc.heap.get? b = some u → z.heap.get? b = some u
  wake : ∃ c, z.gens[g]? = some (.fresh c) ∧ ∀ (A : Around) (z2 : Shared) (pp : List (Addr × Obj)), Room k A → A.frames = some fr → (∀ b u, z.heap.get? b = some u → z2.heap.get? b = some u) → z2.os = sc.os → AllBare z2.gens →
    (∀ p ∈ pp, z.heap.objs.size ≤ p.1 ∧ z2.heap.get? p.1 = some p.2 ∧ ∀ v, p.2.data ≠ .cell v) → Seg (model P w) A (EndE P w fr G sc pp C) NoY 0 z2 c ((model P w).den c) [] z2

abbrev SpE := List V → Hp → (Hp → Prop) → Prop
structure GFnE (P : Program) (w : World) (K : PySem.W.Frag) (mg : Str → Option Value) (base : Heap) (k : Nat) (f : Addr) (fd : FuncData) (ps : List Str) (sp : SpE) : Prop where
  len : ∀ vs G C, sp vs G C → vs.length = ps.length
  run : ∀ (A : Around) (fr : List Env) (z : Shared) (G : Hp) (args : Args) (us : List Value) (vs : List V) (C : Hp → Prop), Room k A → Env0 P w K mg base A fr z G → BindsTo z fd args (ps.zip us) → Vals vs us → sp vs G C →
    codeAny (model P w) A (.call (.ref f) args) (fun r z' => match r with | .ok (.ret u) => ∃ a g, u = .ref a ∧ MadeE P w k fr G z C a g z' | _ => False) z

theorem Fun.okE {P : Program} {w : World} {K : PySem.W.Frag} {mg : Str → Option Value} {base : Heap} {x qual : Str} {st : Stmt} {f : Addr} {fd : FuncData} {N ps : List Str} {k : Nat} {sp : SpE} (F : Fun K x qual st f fd) (S : GScope N ps (defScope st))
    (len : ∀ vs G C, sp vs G C → vs.length = ps.length)
    (hb : ∀ (cdv : Value) (A : Around) (fr : List Env) (z : Shared) (G : Hp) (vs : List V) (C : Hp → Prop) (pn : List (Addr × Obj)), Room k (A.deeper (envOfC qual (defScope st) z.heap.objs.size f cdv)) → sp vs G C →
      ∃ t, PSs (gcxOf P w K mg base N qual (defScope st) f cdv A fr z G (fun _ _ _ => False) pn) (defBody st) t ∧ t { nx := fun _ G' => C G', rt := fun v G' => v = .non ∧ C G' } (start N vs) G) :
    GFnE P w K mg base (k + 1) f fd ps sp := by
  obtain ⟨oc, od, kV, doc, pm, an, cdv, ct, osl, rfl, lk, hcd⟩ := F.ex
  refine ⟨len, fun A fr z G args us vs C hr e0 hbd r hsp => ?_⟩
  have hl := len _ _ _ hsp
  have kin0 : K.In z.heap := e0.mod.kin.keeps fun b u e => (e0.bs b u e).1
  have lim0 : z.heap.NoLimit := e0.mod.nolimit.keeps fun b u e => (e0.bs b u e).1
  have hkd : ∀ y ∈ ps.zip us, (defScope st).names.lookup y.1 = some .local ∨ ((defScope st).names.lookup y.1 = some .cell ∧ ((cellsFrom (z.heap.objs.size + 1) (defScope st).names []).lookup y.1).isSome = true) := by
    rintro ⟨nm, v⟩ hy
    exact (S.par nm (List.of_mem_zip hy).1).imp id fun q => ⟨q, PySem.W.cellsFrom_some _ _ _ (.inl q)⟩
  refine codeAny_call_generator hr.depth (kin0 _ _ lk) rfl S.co S.gen rfl (PySem.W.codeRec_of kin0 hcd) (hbd _ _ _ _ ?_)
  refine wpAny_newFunctionEnv_cells S.kind hkd fun env he z1 x => ?_
  subst he
  have lim1 : z1.heap.NoLimit := lim0.keeps x.toInCall.keep
  refine ⟨lim1, ?_⟩
  obtain ⟨h1, tk, es1, hk1⟩ := x.done
  have os1 : z1.os = z.os := by rw [es1]
  have gn1 : z1.gens = z.gens := by rw [es1]
  have lt1 : z.heap.objs.size < z1.heap.objs.size := x.toInCall.ns.lt
  have kp1 : ∀ b u, z.heap.get? b = some u → z1.heap.get? b = some u := x.toInCall.keep
  have main : ∀ (go : Obj) (nm qn : Value) (tk2 : Nat), go.cls = .type "generator" → go.data = .fields #[.int z1.gens.size 0, nm, qn] → go.slots = #[] → (∀ h : Heap, (h.push go).get? h.objs.size = some go) →
      MadeE P w (k + 1) fr G z C z1.heap.objs.size z1.gens.size { z1 with gens := z1.gens.push (.fresh (.func (defBody st) (envOfC qual (defScope st) z.heap.objs.size f cdv))), toks := tk2, heap := z1.heap.push go } := by
    intro go nm qn tk2 hgc hgd0 hgs hgp
    have hpush : (z1.heap.push go).get? z1.heap.objs.size = some go := hgp _
    refine ⟨Nat.le_of_lt lt1, ?_, ⟨go, nm, qn, hpush, hgc, hgd0, hgs⟩, os1, AllBare.push (by rw [gn1]; exact e0.bare) rfl, lim1.keeps fun b u e => Heap.get?_push_of_some _ e, fun b u e => Heap.get?_push_of_some _ (kp1 b u e), _, Array.getElem?_push_size .., ?_⟩
    · show _ < (z1.heap.push _).objs.size
      rw [Heap.size_push]
      exact Nat.lt_succ_self _
    intro Aw z2 pp hrw hfr hk2 hos hba hpp
    have e0w : Env0 P w K mg base Aw fr z G := ⟨hfr, e0.mod, e0.bs, e0.bsz, e0.funs, e0.frf, e0.hok, e0.bare⟩
    obtain ⟨t, ht, hq⟩ := hb cdv Aw fr z G vs C ((z1.heap.objs.size, go) :: pp) (hrw.deeper _) hsp
    have I1 : Inv (gcxOf P w K mg base N qual (defScope st) f cdv Aw fr z G (fun _ _ _ => False) []) [] (start N vs) G z1 := inv_startG S hrw.hd e0w hl r x
    have kp2 : ∀ b u, z1.heap.get? b = some u → z2.heap.get? b = some u := fun b u e => hk2 b u (Heap.get?_push_of_some _ e)
    have I2 : Inv (gcxOf P w K mg base N qual (defScope st) f cdv Aw fr z G (fun _ _ _ => False) []) [] (start N vs) G z2 :=
      I1.call' (ch := []) (hos.trans os1.symm) (Un.kept kp2) (I1.hok.kept kp2) hba fun b q => by simp at q
    have young : ∀ b, z1.heap.objs.size ≤ b → G b = none ∧ b ≠ z.heap.objs.size ∧ b ∉ frs fr := fun b hb => ⟨I1.hok.fresh hb, Nat.ne_of_gt (Nat.lt_of_lt_of_le lt1 hb), I1.nofs hb⟩
    have I3 : Inv (gcxOf P w K mg base N qual (defScope st) f cdv Aw fr z G (fun _ _ _ => False) ((z1.heap.objs.size, go) :: pp)) [] (start N vs) G z2 := by
      refine Inv.pinnedG I2 fun p hp => ?_
      rw [List.append_nil] at hp
      rcases List.mem_cons.mp hp with q | q
      · rw [q]
        obtain ⟨y1, y2, y3⟩ := young z1.heap.objs.size (Nat.le_refl _)
        exact ⟨hk2 _ go hpush, y1, y2, y3, fun v e => by rw [hgd0] at e; cases e⟩
      · obtain ⟨q1, q2, q3⟩ := hpp p q
        have q4 : (z1.heap.push go).objs.size ≤ p.1 := q1
        rw [Heap.size_push] at q4
        obtain ⟨y1, y2, y3⟩ := young p.1 (Nat.le_of_succ_le q4)
        exact ⟨q2, y1, y2, y3, q3⟩
    have stand : ∀ {σ' : L2.St} {G' : Hp} {z3 : Shared}, Inv (gcxOf P w K mg base N qual (defScope st) f cdv Aw fr z G (fun _ _ _ => False) ((z1.heap.objs.size, go) :: pp)) [] σ' G' z3 → ∀ p ∈ pp, z3.heap.get? p.1 = some p.2 ∧ G' p.1 = none := fun J p hp =>
      let q := J.pin p (List.mem_append_left _ (List.mem_cons_of_mem _ hp)); ⟨q.1, q.2.1⟩
    refine seg_func (seg_wrap ?_)
    rw [over_func]
    refine wpAny_mono (ht.run [] z2 (start N vs) G _ I3 hq) (fun fl z3 hs => ?_) fun e z3 hx => ?_
    · cases fl with
      | next =>
        obtain ⟨σ', G', J, hC⟩ := hs
        exact seg_end (.ok (.ret .none)) ⟨.inl rfl, G', J.os, J.bare, J.base, J.hok, stand J, hC⟩
      | brk => obtain ⟨_, _, _, q⟩ := hs; exact q.elim
      | cont => obtain ⟨_, _, _, q⟩ := hs; exact q.elim
      | ret u =>
        obtain ⟨v, σ', G', J, rv, ev, hC⟩ := hs
        subst ev
        have eu : u = Value.none := rv
        subst eu
        exact seg_end (.ok (.ret .none)) ⟨.inl rfl, G', J.os, J.bare, J.base, J.hok, stand J, hC⟩
    · refine seg_wrap ?_
      rw [over_func]
      refine wpAny_mono (show wpAny (model P w) (Aw.deeper (envOfC qual (defScope st) z.heap.objs.size f cdv)) (leaving (envOfC qual (defScope st) z.heap.objs.size f cdv) e) (fun _ z4 => CX P w fr G z (fun _ _ _ => False) e z4 ∧ ∀ p ∈ ((z1.heap.objs.size, go) :: pp), z4.heap.get? p.1 = some p.2) (fun _ _ => False) z3 from hx) (fun _ z4 q => ?_) fun _ _ q => q.elim
      obtain ⟨_, _, _, _, _, _, _, _, _, _, _, _, hW⟩ := q.1
      exact hW.elim
  exact ⟨_, _, rfl, main _ _ _ _ rfl rfl rfl fun h => Heap.get?_push_size _ rfl⟩

/-- next of such a generator: it ends -/
theorem MadeE.next {P : Program} {w : World} {k : Nat} {fr : List Env} {G : Hp} {sc z z2 : Shared} {C : Hp → Prop} {a : Addr} {g : Nat} {A : Around} {E : Value → Shared → Prop} (M : MadeE P w k fr G sc C a g z) (hr : Room (k + 1) A) (hfr : A.frames = some fr) (pp : List (Addr × Obj))
    (hk : ∀ b u, z.heap.get? b = some u → z2.heap.get? b = some u) (hg : z2.gens = z.gens) (ho : z2.os = z.os)
    (hpp : ∀ p ∈ pp, z.heap.objs.size ≤ p.1 ∧ z2.heap.get? p.1 = some p.2 ∧ ∀ v, p.2.data ≠ .cell v) :
    wpAny (model P w) A (pyNext (.ref a)) (fun r z3 => r = none ∧ ∃ G', z3.os = sc.os ∧ AllBare z3.gens ∧ Un (frs fr) [] G G' sc.heap z3.heap ∧ HOk P w G' z3.heap ∧
      (∀ p ∈ pp, z3.heap.get? p.1 = some p.2 ∧ G' p.1 = none) ∧ C G') E z2 := by
  obtain ⟨c, hc, wake⟩ := M.wake
  have hb2 : AllBare z2.gens := by rw [hg]; exact M.bare
  have rin : Room k A.in1 := ⟨hr.hd, by have := hr.dp; show A.depth + 3 * k + 5 < _; omega, by have := hr.un; show A.units + 1 + 16 * k + 200 < _; omega⟩
  refine next_genG (n := 0) (gs := .fresh c) (Y := NoY) (F := fun _ _ z3 => ∃ G', z3.os = sc.os ∧ AllBare z3.gens ∧ Un (frs fr) [] G G' sc.heap z3.heap ∧ HOk P w G' z3.heap ∧ (∀ p ∈ pp, z3.heap.get? p.1 = some p.2 ∧ G' p.1 = none) ∧ C G') (Er := fun _ _ => False)
    hr.hd (M.lim.keeps hk) (by have := hr.dp; omega) (M.gen.keeps hk) (by rw [hg]; exact hc) ⟨rfl, ?_⟩ (fun v z3 gs' _ hv => False.elim hv) (fun z3 hp h' hk' => ⟨rfl, ?_⟩) fun e z3 he => he.elim
  · refine seg_imp (R := EndE P w fr G sc pp C) (Y := NoY) (fun n s₀ r z3 hR => .inl hR) (fun _ _ _ _ _ _ _ q => False.elim q) 0 (wake A.in1 _ pp rin hfr hk (ho.trans M.os) (allBare_setGen hb2 rfl) hpp)
  · obtain ⟨G', q1, q2, q3, q4, q5, q6⟩ := hp
    exact ⟨G', q1, allBare_setGen q2 rfl, q3.trans (Un.kept hk'), q4.kept hk', fun p hp => ⟨hk' _ _ (q5 p hp).1, (q5 p hp).2⟩, q6⟩

/-! ### the expression o.m() -/
section
variable {X : Cx} {k : Nat} {f C : Addr} {fd : FuncData} {ps : List Str} {sp : SpE} {m : Str} {pos apos : Pos} {o : Expr} {ta : TE}
abbrev TGE := L2.St → Hp → (Hp → Prop) → Prop
structure PGE (X : Cx) (k : Nat) (e : Expr) (tg : TGE) : Prop where
  run : ∀ (pins : List (Addr × Obj)) (z : Shared) (σ : L2.St) (G : Hp) (D : Hp → Prop), Inv X pins σ G z → tg σ G D → wpAny (model X.prog X.w) X.A (eval e X.env)
    (fun u z' => ∃ G1 sc a g, u = .ref a ∧ Inv X pins σ G1 sc ∧ MadeE X.prog X.w k X.stack G1 sc D a g z') X.xe z
def tMethE (C : Addr) (m : Str) (sp : SpE) (ta : TE) : TGE := fun σ G D => ta σ G fun x G1 => ∃ a dx fs, x = .ref a ∧ G1 a = some (.ins C dx fs) ∧ fs.lookup m = none ∧ sp [x] G1 D
theorem pge_meth0 {pl : Sem Bool} (he : PE X o ta) (c : Cls X.K C) (hm : Meth X.K C m f) (F : GFnE X.prog X.w X.K X.mg X.base k f fd ps sp) (hr : Room k X.A) (hb : Binds X.K fd ps [])
    (ht : eval (.Call (.Attribute o m apos) [] [] pos) X.env = (do
      let recv ← eval o X.env
      standAt apos.atName
      let (fn, first) ← holding [recv] (getMethod recv m pl)
      callWith pos fn first (backTo pos (starEach [] X.env)) (backToKw pos (keywordEach [] X.env))) := by rfl) :
    PGE X k (.Call (.Attribute o m apos) [] [] pos) (tMethE C m sp ta) := by
  refine ⟨fun pins z σ G D I h => ?_⟩
  refine PySem.W.methodCall_KW (pl := pl) (thn (he.run pins z σ G _ I h) fun u z1 ⟨x, G1, I1, rx, a, dx, fs, ex, ea, l, q⟩ => ?_) ht
  subst ex
  obtain rfl : u = Value.ref a := rx
  refine getmeth_ok I1 ea c hm l ?_
  refine PySem.W.callWith_K0 (first := [.ref a]) I1.kIn hm.kp ?_
  have r1 : Vals [V.ref a] [Value.ref a] := .cons rfl .nil
  have hlen : [Value.ref a].length = ps.length := by rw [← r1.length]; exact F.len _ _ _ q
  refine wpAny_call (codeAny_mono (F.run X.A X.stack z1 G1 ⟨[.ref a], []⟩ [.ref a] [.ref a] D hr I1.env0 (by
    have y := hb z1 [.ref a] I1.kIn (by simpa using hlen)
    simpa using y) r1 q) fun r z2 hq => ?_)
  cases r with
  | error e => exact False.elim hq
  | ok fl =>
    cases fl with
    | next => exact False.elim hq
    | brk => exact False.elim hq
    | cont => exact False.elim hq
    | ret u =>
      obtain ⟨b, g, e, M⟩ := hq
      exact ⟨G1, z1, b, g, e, I1, M⟩

/-- for .. in o.m(): nothing comes -/
def tForGE (tg : TGE) : TS := fun D σ G => tg σ G fun G' => D.nx σ G'
theorem ps_forGE {tg' iter : Expr} {body : List Stmt} {tg : TGE} (hp : PassesOwn (model X.prog X.w) X.A X.env X.xe) (hi : PGE X k iter tg) (hr : Room (k + 1) X.A) (hs : ∀ x, foldedSetIterable iter X.env x = pure x := by intro _; rfl) :
    PS X (.For tg' iter body [] pos) (tForGE tg) := by
  refine ⟨fun pins z σ G D I h => ?_⟩
  refine wpAny_For (thn (hi.run pins z σ G _ I h) fun u z1 ⟨G1, sc, a, g, e, I1, M⟩ => ?_) hs
  subst e
  refine wpAny_pyIter_gen M.gen ?_
  refine codeAny_forLoop_any (fun (_ : Nat) z' => z' = z1) ?_ 0 rfl
  rintro n z2 rfl
  refine wpAny_passesOwn hp (thn (M.next hr I1.ok.frames [] (fun _ _ q => q) rfl rfl fun p q => by simp at q) fun r z3 ⟨hn, G', q1, q2, q3, q4, _, q6⟩ => ?_)
  subst hn
  exact wpAny_execs_nil ⟨σ, G', I1.call' (ch := []) q1 q3 q4 q2 (fun b q => by simp at q), q6⟩

/-- [.. for .. in o.m()]: nothing comes -/
def tLcE (tg : TGE) : TE := fun σ G Q => tg σ G fun G' => ∀ D, G' D = none → Q (.ref D) (upd G' D (.lst []))
theorem pe_lcE {elt tg' iter : Expr} {ifs : List Expr} {scope : Scope} {own : List (Str × Nat)} {tg : TGE} (hN : X.N.Nodup) (hi : PGE X k iter tg) (hr : Room (k + 1) X.A) (ok : BlkOk X.N X.env.scope scope own) (hs : ∀ x, foldedSetIterable iter X.env x = pure x := by intro _; rfl) :
    PE X (.ListComp elt [⟨tg', iter, ifs, 0⟩] scope pos) (tLcE tg) := by
  refine ⟨fun pins z σ G Q I h => ?_⟩
  rw [eval_ListComp]
  have hfree : ∀ y ∈ scope.names, y.2 = .free → ∃ c, X.env.cells.lookup y.1 = some c := fun y hy e => (ok.free y hy e).elim (fun q => I.ok.has _ (.inl q)) fun q => I.ok.has _ (.inr q)
  refine wpAny_comprehension_free rfl hs (closure_ok hfree) ok.kind (fun y hy e => by rw [ok.uniq y hy, e]) (thn (hi.run pins z σ G _ I h) fun u z1 ⟨G1, sc, a, g, e, I1, M⟩ => ?_)
  subst e
  refine wpAny_pyIter_gen M.gen ?_
  refine wpAny_newObj_type (newEnv_comp ?_) (by show 0 ≤ sizeLine; decide)
  generalize hD : z1.heap.objs.size = D
  have J1 : Inv X pins σ G1 z1 := I1.call' (ch := []) M.os (Un.kept M.keep) (I1.hok.kept M.keep) M.bare fun b q => by simp at q
  have hDn : G1 D = none := J1.hok.fresh (Nat.le_of_eq hD)
  generalize h3 : ({ z1 with heap := z1.heap.push { cls := .type "list", data := .seq ([] : List Value).toArray } } : Shared) = z3
  have e3 : z3.heap = z1.heap.push { cls := .type "list", data := .seq ([] : List Value).toArray } := by rw [← h3]
  have aD : z3.heap.get? D = some { cls := .type "list", data := .seq ([] : List Value).toArray } := by rw [e3, ← hD]; exact Heap.get?_push_size _ rfl
  have J3 : Inv X pins σ (upd G1 D (.lst [])) z3 := by
    rw [← h3]
    exact J1.laid (t' := z1.toks) (fun b u e => Heap.get?_push_of_some _ e) (Nat.le_of_eq hD) ⟨Nat.zero_le _, [], 0, .nil, by rw [← hD]; exact Heap.get?_push_size _ rfl⟩
  have J4 := block_start (fp := []) J3 ok hN fun b hb => by simp at hb
  show codeAny _ _ (.compStart (.ListComp elt [⟨tg', iter, ifs, 0⟩] scope pos) 0 (.ref a) (.ref D) (compEnvC scope (cellsFrom (z3.heap.objs.size + 1) scope.names (cloFrom X.env.cells scope.names [])) z3.heap.objs.size X.env)) (compPost (model X.prog X.w) X.A X.xe none (EP X pins σ Q) (.ref D) z3.heap.objs.size) { z3 with heap := pushCells (z3.heap.push { cls := .type "dict", data := .dict #[] }) scope.names }
  generalize hce : compEnvC scope (cellsFrom (z3.heap.objs.size + 1) scope.names (cloFrom X.env.cells scope.names [])) z3.heap.objs.size X.env = ce at J4 ⊢
  have cL : ce.locals = z3.heap.objs.size := by subst hce; rfl
  generalize h4 : ({ z3 with heap := pushCells (z3.heap.push { cls := .type "dict", data := .dict #[] }) scope.names } : Shared) = z4 at J4 ⊢
  have k4 : ∀ b u, z3.heap.get? b = some u → z4.heap.get? b = some u := fun b u e => by rw [← h4]; exact pushCells_keeps _ _ _ _ (Heap.get?_push_of_some _ e)
  have k3 : ∀ b u, z1.heap.get? b = some u → z3.heap.get? b = some u := fun b u e => by rw [e3]; exact Heap.get?_push_of_some _ e
  obtain ⟨mm, hns, _⟩ := J4.loc
  have hns : z4.heap.Ns ce.locals mm := hns
  rw [cL] at hns
  obtain ⟨ob, es, ep, ho, hdt, hrest⟩ := hns
  have sz3 : z3.heap.objs.size = D + 1 := by rw [e3, Heap.size_push, hD]
  have loop : codeAny (model X.prog X.w) X.A (.compLoop (.ListComp elt [⟨tg', iter, ifs, 0⟩] scope pos) 0 (.ref a) (.ref D) ce) (compPost (model X.prog X.w) X.A X.xe none (EP X pins σ Q) (.ref D) z3.heap.objs.size) z4 := by
    refine compLoop_any (fun (_ : Nat) z' => z' = z4) ?_ 0 rfl
    rintro n z5 rfl
    refine thnF (M.next hr I1.ok.frames [(D, { cls := .type "list", data := .seq ([] : List Value).toArray }), (z3.heap.objs.size, ob)] (fun b u e => k4 b u (k3 b u e)) (by rw [← h4, ← h3]) (by rw [← h4, ← h3]) fun p hp => ?_) fun r z6 ⟨hn, G', q1, q2, q3, q4, q5, q6⟩ => ?_
    · rcases List.mem_cons.mp hp with e | hp
      · rw [e]
        exact ⟨Nat.le_of_eq hD, k4 _ _ aD, fun v q => by cases q⟩
      · rw [List.mem_singleton.mp hp]
        exact ⟨by show _ ≤ z3.heap.objs.size; rw [sz3, hD]; exact Nat.le_succ _, ho, fun v q => by rw [hdt] at q; cases q⟩
    · subst hn
      obtain ⟨d1, d2⟩ := q5 _ List.mem_cons_self
      obtain ⟨c1, c2⟩ := q5 _ (List.mem_cons_of_mem _ List.mem_cons_self)
      have szc : sc.heap.objs.size ≤ D := by rw [← hD]; exact Nat.le_trans M.ge (Nat.le_of_lt M.lt)
      have J6 : Inv X pins σ (upd G' D (.lst [])) z6 := I1.drained (c := 0) szc (Nat.zero_le _) d1 .nil .nil q1 q2 q3 q4 d2
      have nC : (upd G' D (.lst [])) z3.heap.objs.size = none := by
        rw [upd_ne (by rw [sz3]; exact Nat.succ_ne_self D)]
        exact c2
      refine ⟨mm, ⟨ob, es, ep, c1, hdt, hrest⟩, fun h'' sb => ?_⟩
      obtain ⟨f0, f1, f2, f3, f4, f5⟩ := J3.fpOk (Nat.le_refl _) nC
      exact ⟨.ref D, _, J6.turned (t' := z6.toks) (fun b u hb e => (sb.2 b hb).trans e) f0 f1 f3 f4 f5, rfl, q6 D d2⟩
  exact codeAny_compStart_list loop (by
    first
      | exact wpAny_pyIter_gen (M.gen.keeps fun b u e => k4 b u (k3 b u e)) loop
      | exact fun {_ _} => wpAny_pyIter_gen (M.gen.keeps fun b u e => k4 b u (k3 b u e)) loop)
end
end L2

/-! Dicts: tuple(d), iter(d), o's own __iter__ that gives iter(d). -/
namespace L2
open PySem PySem.Spec PyProof.Rows
section
variable {prog : Program} {w : World} {A : Around} {E : Value → Shared → Prop} {z : Shared} {T : String} {p d : Addr} {n : Nat} {PP : Nat → Value → Prop} {OK : Heap → Prop}
theorem collect_src {Q : List Value → Shared → Prop} (S : PySem.W.KdlSrc prog w T p d n PP OK) (hh : A.handled = none) (hok : OK z.heap) (hn : n ≤ sizeLine)
    (hQ : ∀ (h' : Heap) (tk : Nat) (acc : Array Value), (∀ b u, z.heap.get? b = some u → h'.get? b = some u) → ItemsOf PP acc n → Q acc.toList { z with heap := h', toks := tk }) :
    wpAny (model prog w) A (collect (.ref p)) Q E z := by
  unfold collect
  refine wpAny_bind (wpAny_runValue (codeAny_builtin F.entry_proto_collect ?_)); rw [Around.under_plainId F.plain_proto_collect _]
  show wpAny _ A.in1 (newList [] >>= fun l => again (.builtin "list.__iadd__" ⟨[l, .ref p], []⟩)) _ _ z
  refine wpAny_bind (wpAny_newObj_type (wpAny_pure ⟨plainId_quiet F.plain_list_iadd _, codeAny_builtin F.entry_list_iadd ?_⟩))
  rw [Around.under_plainId F.plain_list_iadd _]; show wpAny _ A.in1 (Builtin.List.listExtendWith (.ref z.heap.objs.size) (.ref p) (.ref z.heap.objs.size)) _ _ _
  have hS : (z.heap.push { cls := .type "list", data := .seq ([] : List Value).toArray }).get? z.heap.objs.size = some { cls := .type "list", data := .seq #[] 0 } := Heap.get?_push_size _ rfl
  have lt := S.there _ hok
  refine wpAny_mono (PySem.W.kdl_extend (A := A) (R := fun rr z' => rr = .ok (.ret (.ref z.heap.objs.size)) ∧ ∃ (h' : Heap) (tk : Nat) (acc : Array Value) (c' : Nat), z' = { z with heap := h', toks := tk } ∧
      (∀ b u, z.heap.get? b = some u → h'.get? b = some u) ∧ h'.get? z.heap.objs.size = some { cls := .type "list", dict := none, data := .seq acc c', slots := #[] } ∧ ItemsOf PP acc n)
    (s := { z with heap := z.heap.push { cls := .type "list", data := .seq ([] : List Value).toArray } }) S hh (S.keep _ _ hok fun b _ u e => Heap.get?_push_of_some _ e) _ (Nat.ne_of_gt lt.1) (Nat.ne_of_gt lt.2) _ 0 hS
    (fun h' tk acc c' hk e hi => ⟨rfl, h', tk, acc, c', rfl, fun b u q => hk b u (Nat.ne_of_lt (Heap.lt_size q)) (Heap.get?_push_of_some _ q), e, hi⟩) hn) (fun fin z' h => ?_) (fun e z' h => ?_)
  · cases fin with
    | done f =>
      obtain ⟨e, h', tk, acc, c', rfl, hk, hS', hi⟩ := h
      cases e
      show wpAny _ A (load z.heap.objs.size >>= _) _ _ _
      exact wpAny_bind (wpAny_load hS' (wpAny_pure (hQ h' tk acc hk hi)))
    | again c' =>
      refine ⟨h.1, codeAny_mono h.2 fun rr z'' hr' => ?_⟩
      obtain ⟨rfl, h', tk, acc, c', rfl, hk, hS', hi⟩ := hr'
      show wpAny _ A (load z.heap.objs.size >>= _) _ _ _
      exact wpAny_bind (wpAny_load hS' (wpAny_pure (hQ h' tk acc hk hi)))
  · exact absurd h.1 (by simp)

theorem code_tuple_src {Q₁ : Value → Shared → Prop} (S : PySem.W.KdlSrc prog w T p d n PP OK) (hh : A.handled = none) (hok : OK z.heap) (hn : n ≤ sizeLine)
    (h : ∀ (h' : Heap) (tk : Nat) (acc : Array Value), (∀ b u, z.heap.get? b = some u → h'.get? b = some u) → ItemsOf PP acc n →
      Q₁ (.ref h'.objs.size) { z with heap := h'.push { cls := .type "tuple", data := .seq acc }, toks := tk }) :
    codeAny (model prog w) A (.call (.builtin "tuple.__new__") ⟨[.type "tuple", .ref p], []⟩) (wants Q₁ E) z := by
  refine codeAny_of_tree ?_
  show wpAny _ A.in1 (do checkBuiltinCall "tuple.__new__" ⟨[.type "tuple", .ref p], []⟩; again (.builtin "tuple.__new__" ⟨[.type "tuple", .ref p], []⟩)) _ _ z
  refine wpAny_bind (wpAny_of_eq (F.newCall_tuple_1 _) (wpAny_pure ⟨plainId_quiet F.plain_tuple_new _, codeAny_builtin F.entry_tuple_new ?_⟩)); rw [Around.under_plainId F.plain_tuple_new _]
  have hsub := sub_tuple_self
  have hinit := init_tuple_lookup
  have hmh := madeHere_tuple
  have hTI : z.TypeIs (.ref p) T := S.type _ hok
  have hh1 : A.in1.handled = none := hh
  have hnt := S.notTuple
  wp_walk using wpAny_typeOf hTI, collect_src (A := A.in1) S hh1 hok hn
  intro h' tk acc hk hacc
  show wpAny _ _ (Builtin.Tuple.tupleExact acc.toList.toArray >>= fun v => ret v) _ _ _
  unfold Builtin.Tuple.tupleExact
  refine wpAny_bind (wpAny_newObj_type (wpAny_pure ?_) (by show acc.toList.toArray.size ≤ sizeLine; simp only [Array.toArray_toList]; rw [hacc.1]; exact hn))
  rw [show acc.toList.toArray = acc by simp]
  exact h h' tk acc hk hacc
theorem call_tuple_src {Q : Value → Shared → Prop} (S : PySem.W.KdlSrc prog w T p d n PP OK) (hh : A.handled = none) (hok : OK z.heap) (hn : n ≤ sizeLine)
    (hQ : ∀ (h' : Heap) (tk : Nat) (acc : Array Value), (∀ b u, z.heap.get? b = some u → h'.get? b = some u) → ItemsOf PP acc n →
      Q (.ref h'.objs.size) { z with heap := h'.push { cls := .type "tuple", data := .seq acc }, toks := tk }) :
    wpAny (model prog w) A (call (.type "tuple") [.ref p]) Q E z := by
  refine callType_codes (Q₁ := fun obj z₁ => z₁.TypeIs obj "tuple" ∧ Q obj z₁) F.called_tuple (F.typeCall_tuple_1 _) F.entry_object_init
    (code_tuple_src (A := A.in1) S hh hok hn fun h' tk acc hk hacc => ⟨⟨_, Heap.get?_push_size _ rfl, rfl⟩, hQ h' tk acc hk hacc⟩) fun obj z₁ h₁ => ?_
  exact ⟨h₁.1, F.args_object_init_2 obj _, object_init_meets F.called_tuple.init.lookup F.called_tuple.made (by decide) prog w A.in1 _ z₁ ⟨h₁.1, rfl, h₁.2⟩⟩
end

section
variable {X : Cx}
/-- tuple(d): the keys -/
def rTupD : List V → Hp → VK → Prop := fun xs H Q => ∃ p kvs, xs = [.ref p] ∧ H p = some (.dK kvs) ∧ ∀ q, H q = none → Q (.ref q) (upd H q (.tup (kvs.map fun kv => kV kv.1)))
theorem call_tup_dK (hc : X.calm = true) : CallR X (.type "tuple") rTupD := by
  intro pins s σ H xs us Q I r h
  obtain ⟨p, kvs, e, hk, q⟩ := h
  subst e
  obtain ⟨u, eu, rx⟩ := vals1 r
  subst eu
  obtain rfl : u = Value.ref p := rx
  obtain ⟨z, lo, vs, rk, hd⟩ := (show ObjOk X.prog X.w H s.heap p (.dK kvs) from I.hok p _ hk)
  obtain ⟨ep, hat⟩ := hd.dictAt
  have hl : kvs.length = vs.length := Paired.length rk
  refine call_tuple_src (PySem.W.kdl_dict (knd := mixKind X.prog X.w) (kvs := vs) (ep := ep) lo) (I.ok.hd hc) hat (by rw [← hl]; exact z) fun h' tk acc' hkeep hacc => ?_
  have I2 : Inv X pins σ H { s with heap := h', toks := tk } := I.kept hkeep
  refine ⟨.ref h'.objs.size, upd H h'.objs.size (.tup (kvs.map fun kv => kV kv.1)), I2.laid (t' := tk) (fun b u e => Heap.get?_push_of_some _ e) (Nat.le_refl _)
    (show ObjOk X.prog X.w _ _ _ (.tup (kvs.map fun kv => kV kv.1)) from ⟨?_, acc'.toList, ?_, ?_⟩), rfl, q _ (I2.hok.fresh (Nat.le_refl _))⟩
  · rw [List.length_map]; exact z
  · have el : acc'.toList.length = acc'.size := by simp
    refine vals_of_at (by rw [List.length_map, el, hacc.1, hl]) fun j x w' h1 h2 => ?_
    obtain ⟨k, y, hky, hi⟩ := hacc.2 j w' (by rw [← Array.getElem?_toList]; exact h2)
    have e1 : (kvs.map (·.1))[j]? = some k := by rw [KV.keys rk, List.getElem?_map, hky] <;> rfl
    have e3 : (kvs.map fun kv => kV kv.1) = (kvs.map (·.1)).map kV := by rw [List.map_map] <;> rfl
    rw [e3, List.getElem?_map, e1] at h1
    cases h1
    exact keyIs_rel hi
  · rw [Array.toArray_toList]; exact IsTup.new _ _
/-- iter(d), d locked -/
def KitO (o : Obj) (d it n : Nat) : HO := .ext fun h => ∃ es ep, o.data = .dict es ep ∧ h.IsKeyIter it d 0 n ep
theorem kitO_ok {P : Program} {w : World} {H : Hp} {h : Heap} {o : Obj} {d it n : Nat} {es : Array DictEntry} {ep : Nat} (e0 : o.data = .dict es ep) (e : h.IsKeyIter it d 0 n ep) : ObjOk P w H h it (KitO o d it n) :=
  ⟨⟨es, ep, e0, e⟩, (let ⟨u, hu, _⟩ := e; ⟨u, hu⟩), fun h1 h2 q k => let ⟨es, ep, q0, q1⟩ := q; ⟨es, ep, q0, q1.at fun u hu => k _ hu⟩⟩
def rIterK (n : Nat) : List V → Hp → VK → Prop := fun xs H Q => ∃ (d : Addr) (o : Obj) (kvs : List (Key × V)), xs = [.ref d] ∧ H d = some (.frz o (.dK kvs)) ∧ ∀ it, H it = none → n ≤ it → Q (.ref it) (upd H it (KitO o d it kvs.length))
theorem c_iterK : CallR X (.builtin "iter") (rIterK X.s_0.heap.objs.size) := by
  intro pins s σ H xs us Q I r h
  obtain ⟨d, o, kvs, rfl, hd, q⟩ := h
  obtain ⟨u, rfl, rx⟩ := vals1 r
  cases (show u = Value.ref d from rx)
  obtain ⟨hs, hgd, hx, es, ep, vs, hdt, hsz, kv, hm⟩ := I.frzK hd
  refine Calls.call_function_entry (by decide +kernel) (by decide +kernel) PySem.W.kdk_entry_iter (PySem.W.kdk_args_iter _) ?_
  unfold Builtin.«iter»
  refine wpAny_bind (m := someArgs "iter" 1 2 _) (wpAny_of_eq (a := [Value.ref d]) (by first | rfl | kernel_rfl!) ?_)
  show wpAny _ _ (pyIter (.ref d) >>= _) _ _ _
  refine wpAny_bind (iter_keys hs hgd hx hdt (wpAny_pure ⟨_, rfl, ?_⟩))
  exact ⟨.ref s.heap.objs.size, _, I.laid (t' := s.toks) (fun b u e => Heap.get?_push_of_some _ e) (Nat.le_refl _) (kitO_ok hdt ⟨_, Heap.get?_push_size _ rfl, rfl, by rw [hsz] <;> rfl⟩), rfl, q _ (I.hok.fresh (Nat.le_refl _)) I.sz⟩
def spIterK (C : Addr) (f : Str) : Nat → Sp := fun n vs H Q _ => ∃ a dx fs d o kvs, vs = [.ref a] ∧ H a = some (.ins C dx fs) ∧ fs.lookup f = some (.ref d) ∧ H d = some (.frz o (.dK kvs)) ∧ ∀ it, H it = none → n ≤ it → Q (.ref it) (upd H it (KitO o d it kvs.length))
/-- for .. in e, e of a class whose __iter__ gives iter(d), d locked -/
def iOwnK (C : Addr) (f : Str) (te : TE) : TI := fun σ H R => te σ H fun x H1 => ∃ a dx fs d o kvs, x = .ref a ∧ H1 a = some (.ins C dx fs) ∧ fs.lookup f = some (.ref d) ∧ H1 d = some (.frz o (.dK kvs)) ∧ R (Itk d o kvs) H1
variable {kI : Nat} {C fI : Addr} {fdI : FuncData} {psI : List Str} {f : Str} {e tg : Expr} {te : TE}
theorem pi_ownK (MI : SpM X.K C fI "__iter__") (FI : FnN X.prog X.w X.K X.mg X.base CX0 kI fI fdI psI (spIterK C f)) (bI : Binds X.K fdI psI []) (rI : Room kI X.A) (he : PE X e te) : PI X tg e (iOwnK C f te) := by
  refine ⟨fun pins s σ H R I h => ?_⟩
  refine thn (he.run pins s σ H _ I h) fun v s0 ⟨x, HA, IA, rx, a, dx, fs, d, o, kvs, ex, ha, hl, ht, q⟩ => ?_
  subst ex
  cases (show v = Value.ref a from rx)
  obtain ⟨mA, J, _⟩ := ins_get IA.hok ha
  obtain ⟨od, J, _⟩ := J.look
  obtain ⟨m0, hF⟩ := IA.fr
  refine PySem.W.owit_iter hF IA.ok.mod.kin J MI.hs MI.hf ?_
  have rv0 : Vals [V.ref a] [Value.ref a] := .cons rfl .nil
  have hsp : spIterK C f s0.heap.objs.size [.ref a] HA (fun v H' => ∃ it, HA it = none ∧ s0.heap.objs.size ≤ it ∧ v = .ref it ∧ H' = upd HA it (KitO o d it kvs.length)) (fun _ _ _ => False) := ⟨a, dx, fs, d, o, kvs, rfl, ha, hl, ht, fun it hi hn => ⟨it, hi, hn, rfl, rfl⟩⟩
  have hlen := FI.len _ _ _ _ _ hsp
  refine wpAny_call (codeAny_mono (FI.run X.A X.stack s0 HA ⟨[.ref a], []⟩ [.ref a] [.ref a] _ _ rI IA.env0 (by
    have z := bI s0 [.ref a] IA.kIn (by simpa using hlen)
    simpa using z) rv0 hsp) fun r s1 hr1 => ?_)
  cases r with
  | error e => exact hr1.elim
  | ok fl =>
    cases fl with
    | next => exact False.elim hr1
    | brk => exact False.elim hr1
    | cont => exact False.elim hr1
    | ret u =>
      obtain ⟨v, H1, I1, rv, it, hit, hy, ev, eH⟩ := IA.after hr1
      subst ev
      subst eH
      cases (show u = Value.ref it from rv)
      obtain ⟨es, ep, hod, ti1⟩ := (I1.hok it _ upd_same).1
      show PySem.W.OwitIt _ _ _ _ _ _
      unfold PySem.W.OwitIt
      refine wpAny_specialOf (name := Str.ofString "__next__") ti1.typeIs (by first | exact PySem.F.slot_dict_keyiterator_next.lookup | exact PySem.slot_dict_keyiterator_next.lookup | exact F.slot_keyiter_next.lookup) ?_
      dsimp only
      have I2 := ItX.inv_drop I1 upd_same
      have fp := ItX.inv_fp I1 upd_same (Nat.le_trans IA.sz hy)
      rw [ItX.dropH_upd hit] at I2 fp
      exact ⟨it, [it], _, _, HA, rfl, I2, turn_keys it hod, ti1, fun b hb => by rw [List.mem_singleton.mp hb]; exact fp, q⟩
end
end L2

/-! What an empty dict of an own object comes to, told of what is known. -/
namespace L2
open PySem PySem.Spec PyProof.Rows
/-- a generator method that hands out nothing while the dict in the field f is empty -/
def spGenE (C : Addr) (f : Str) : SpE := fun vs H Q => ∃ a dx fs d, vs = [.ref a] ∧ H a = some (.ins C dx fs) ∧ fs.lookup f = some (.ref d) ∧ H d = some (.dK []) ∧ ∀ H', Ext H H' → Q H'
end L2
namespace AW
open PySem PySem.Spec PyProof.Rows L2
theorem upd_back {H : Hp} {d : Addr} {u v : HO} (h : H d = some u) : upd (upd H d v) d u = H := by
  funext x
  by_cases hx : x = d
  · rw [hx, upd_same, h]
  · rw [upd_ne hx, upd_ne hx]
theorem upd_swap {H : Hp} {d p : Addr} {u v w : HO} (h : H d = some u) (hp : p ≠ d) : upd (upd (upd H d v) p w) d u = upd H p w := by
  funext x
  by_cases hx : x = d
  · rw [hx, upd_same, upd_ne (Ne.symm hp), h]
  · rw [upd_ne hx]
    by_cases hy : x = p
    · rw [hy, upd_same, upd_same]
    · rw [upd_ne hy, upd_ne hy, upd_ne hx]
section
variable {c : Cw} {kn : Hp} {n : Nat} {σ : L2.St} {K : PySem.W.Frag} {Q : V → Hp → Nat → Prop} {D : AE} {i : Nat} {f m : Str} {g : TG} {tb : TS} {tt : TT} {te : TE} {vs : List Nat} {a d C dx : Addr} {fs : List (Str × V)}
/-- for .. in o.f.values(), the dict empty -/
theorem s_valsE (hs : σ[i]? = some (some (.ref a))) (ha : kn a = some (.ins C dx fs)) (hC : Cls K C) (hn : NoAttr K C f) (hf : fs.lookup f = some (.ref d)) (hd : kn d = some (.dK [])) (q : D.nx σ kn n) :
    WS c (tLock (tFor (iVals (tFld K (tVar i) f)) g tb)) D σ kn n := by
  intro H G D' F
  have eA := G.ex _ _ ha
  have eD := G.ex _ _ hd
  have ne : a ≠ d := fun z => by rw [z, hd] at ha; cases ha
  refine ⟨d, .dK [], eD, trivial, fun od => ?_⟩
  refine ⟨.ref a, hs, a, C, dx, fs, .ref d, rfl, by rw [upd_ne ne]; exact eA, hC, hn, hf, d, od, [], rfl, upd_same, ?_⟩
  refine ⟨fun j m σ' H' => j = 0 ∧ σ' = σ ∧ H' = upd H d (.frz od (.dK [])), ⟨0, rfl, rfl, rfl⟩, ?_⟩
  rintro j m σ' H' ⟨rfl, rfl, rfl⟩
  refine .inl ⟨⟨upd_same, Nat.le_refl _⟩, upd_same, ?_⟩
  rw [upd_back eD]
  exact F.nx _ _ _ _ q G
/-- [.. for .. in d], d empty -/
theorem w_lcKeysE (hs : σ[i]? = some (some (.ref d))) (hd : kn d = some (.dK [])) (q : ∀ p, kn p = none → Q (.ref p) (upd kn p (.lst [])) n) :
    W c (tLockE (tLc (iKeys (tVar i)) g tt te vs) σ) kn n Q := by
  intro H G Q' k
  have eD := G.ex _ _ hd
  refine ⟨d, .dK [], eD, trivial, fun od => ?_⟩
  refine ⟨.ref d, hs, d, od, rfl, .inl ⟨[], upd_same, fun p hp => ?_⟩⟩
  have np : p ≠ d := fun z => by rw [z, upd_same] at hp; cases hp
  have hp' : H p = none := by rw [upd_ne np] at hp; exact hp
  refine ⟨fun j m H' => j = 0 ∧ H' = upd (upd H d (.frz od (.dK []))) p (.lst []), ⟨0, rfl, rfl⟩, ?_⟩
  rintro j m H' ⟨rfl, rfl⟩
  have ed : upd (upd H d (.frz od (.dK []))) p (.lst []) d = some (.frz od (.dK [])) := by rw [upd_ne (Ne.symm np)]; exact upd_same
  refine .inl ⟨⟨ed, Nat.le_refl _⟩, ed, ?_⟩
  rw [upd_swap eD np]
  exact k _ _ _ _ (q p (G.free hp')) (G.new hp')
/-- [.. for .. in o], o's __iter__ gives iter(o.f), the dict empty -/
theorem w_lcOwnE (hs : σ[i]? = some (some (.ref a))) (ha : kn a = some (.ins C dx fs)) (hf : fs.lookup f = some (.ref d)) (hd : kn d = some (.dK [])) (q : ∀ p, kn p = none → Q (.ref p) (upd kn p (.lst [])) n) :
    W c (tLockE (tLc (iOwnK C f (tVar i)) g tt te vs) σ) kn n Q := by
  intro H G Q' k
  have eA := G.ex _ _ ha
  have eD := G.ex _ _ hd
  have ne : a ≠ d := fun z => by rw [z, hd] at ha; cases ha
  refine ⟨d, .dK [], eD, trivial, fun od => ?_⟩
  refine ⟨.ref a, hs, a, dx, fs, d, od, [], rfl, by rw [upd_ne ne]; exact eA, hf, upd_same, fun p hp => ?_⟩
  have np : p ≠ d := fun z => by rw [z, upd_same] at hp; cases hp
  have hp' : H p = none := by rw [upd_ne np] at hp; exact hp
  refine ⟨fun j m H' => j = 0 ∧ H' = upd (upd H d (.frz od (.dK []))) p (.lst []), ⟨0, rfl, rfl⟩, ?_⟩
  rintro j m H' ⟨rfl, rfl⟩
  have ed : upd (upd H d (.frz od (.dK []))) p (.lst []) d = some (.frz od (.dK [])) := by rw [upd_ne (Ne.symm np)]; exact upd_same
  refine .inl ⟨⟨ed, Nat.le_refl _⟩, ed, ?_⟩
  rw [upd_swap eD np]
  exact k _ _ _ _ (q p (G.free hp')) (G.new hp')
/-- tuple(d), len(d), dict(d) -/
theorem r_tupD {kvs : List (Key × V)} (hd : kn d = some (.dK kvs)) (q : ∀ p, kn p = none → Q (.ref p) (upd kn p (.tup (kvs.map fun kv => kV kv.1))) n) : W c (rTupD [.ref d]) kn n Q :=
  fun H G Q' k => ⟨d, kvs, rfl, G.ex _ _ hd, fun p hp => k _ _ _ _ (q p (G.free hp)) (G.new hp)⟩
def rLenDK : List V → Hp → VK → Prop := fun xs H Q => ∃ a kvs, xs = [V.ref a] ∧ H a = some (.dK kvs) ∧ Q (.int kvs.length) H
theorem c_lenDK {X : Cx} : CallR X (.builtin "len") rLenDK := call_lenD
theorem r_lenD {kvs : List (Key × V)} (hd : kn d = some (.dK kvs)) (q : Q (.int kvs.length) kn n) : W c (rLenDK [.ref d]) kn n Q :=
  fun H G Q' k => ⟨d, kvs, rfl, G.ex _ _ hd, k _ _ _ _ q G⟩
def rDictDK : List V → Hp → VK → Prop := fun xs H Q => ∃ (a : Addr) (kvs : List (Key × V)), xs = [.ref a] ∧ Rd H a (.dK kvs) ∧ ∀ p, H p = none → Q (.ref p) (upd H p (.dK kvs))
theorem c_dictDK {X : Cx} : CallR X (.type "dict") rDictDK := call_dictD
theorem r_dictD {kvs : List (Key × V)} (hd : kn d = some (.dK kvs)) (q : ∀ p, kn p = none → Q (.ref p) (upd kn p (.dK kvs)) n) : W c (rDictDK [.ref d]) kn n Q :=
  fun H G Q' k => ⟨d, kvs, rfl, .inl (G.ex _ _ hd), fun p hp => k _ _ _ _ (q p (G.free hp)) (G.new hp)⟩
/-- == and != of two empty dicts -/
theorem r_eqD0 {b : Addr} (h1 : kn d = some (.dK [])) (h2 : kn b = some (.dK [])) (q : Q (.bl true) kn n) : W c (rEqDA (.ref d) (.ref b)) kn n Q :=
  fun H G Q' k => ⟨d, b, [], [], rfl, rfl, G.ex _ _ h1, G.ex _ _ h2, rfl, fun p hp => (by simp at hp), k _ _ _ _ q G⟩
theorem r_neD0 {b : Addr} (h1 : kn d = some (.dK [])) (h2 : kn b = some (.dK [])) (q : Q (.bl false) kn n) : W c (rNeDA (.ref d) (.ref b)) kn n Q :=
  fun H G Q' k => ⟨d, b, [], [], rfl, rfl, G.ex _ _ h1, G.ex _ _ h2, rfl, fun p hp => (by simp at hp), k _ _ _ _ q G⟩
/-- the generator that hands out nothing -/
theorem w_lcE (hs : σ[i]? = some (some (.ref a))) (ha : kn a = some (.ins C dx fs)) (hm : fs.lookup m = none) (hf : fs.lookup f = some (.ref d)) (hd : kn d = some (.dK [])) (q : ∀ p, kn p = none → Q (.ref p) (upd kn p (.lst [])) n) :
    W c (tLcE (tMethE C m (spGenE C f) (tVar i)) σ) kn n Q := by
  intro H G Q' k
  refine ⟨.ref a, hs, a, dx, fs, rfl, G.ex _ _ ha, hm, a, dx, fs, d, rfl, G.ex _ _ ha, hf, G.ex _ _ hd, fun H' e p hp => ?_⟩
  exact k _ _ _ _ (q p ((G.ext e).free hp)) ((G.ext e).new hp)
theorem s_forE (hs : σ[i]? = some (some (.ref a))) (ha : kn a = some (.ins C dx fs)) (hm : fs.lookup m = none) (hf : fs.lookup f = some (.ref d)) (hd : kn d = some (.dK [])) (q : D.nx σ kn n) :
    WS c (tForGE (tMethE C m (spGenE C f) (tVar i))) D σ kn n := by
  intro H G D' F
  exact ⟨.ref a, hs, a, dx, fs, rfl, G.ex _ _ ha, hm, a, dx, fs, d, rfl, G.ex _ _ ha, hf, G.ex _ _ hd, fun H' e => F.nx _ _ _ _ q (G.ext e)⟩
end
end AW

/-! C(.., k = v) at the abstract layer. -/
namespace L2
open PySem PySem.Spec PyProof.Rows
/-- o.m(k = v, ..), no positional argument -/
def tMethKW (C : Addr) (m : Str) (b : Nat) (sp : Sp) (gV : List V → List V → List V) (E : XK) (ta : TE) (tk : TA) : TE := fun σ H Q => ta σ H fun x H1 => ∃ a dx fs, x = .ref a ∧ H1 a = some (.ins C dx fs) ∧ fs.lookup m = none ∧ tk σ H1 fun zs H2 => zs.length = b ∧ sp (gV [x] zs) H2 Q E
section
variable {X : Cx} {CX : CXT} {k : Nat} {f C : Addr} {fd : FuncData} {ps ks : List Str} {sp : Sp} {E : XK} {m : Str} {apos pos : Pos} {o : Expr} {kws : List Keyword} {ta : TE} {tk : TA} {g : List Value → List Value → List Value} {gV : List V → List V → List V}
theorem pe_methKW {pl : Sem Bool} (he : PE X o ta) (c : Cls X.K C) (hm : Meth X.K C m f) (F : FnOk X.prog X.w X.K X.mg X.base CX k f fd ps sp) (hr : Room k X.A) (hb : KBn X.K fd ps 1 ks g gV) (hx : Passes CX X E) (hkw : PK X kws tk)
    (hall : (backToKw pos (keywordEach kws X.env)).all (·.1.isSome) = true := by rfl) (hks : (backToKw pos (keywordEach kws X.env)).filterMap (·.1) = ks := by rfl)
    (hpl : ((backTo pos (starEach [] X.env)).any (·.1) || (backToKw pos (keywordEach kws X.env)).any (·.1.isNone)) = false := by rfl)
    (ht : eval (.Call (.Attribute o m apos) [] kws pos) X.env = (do
      let ov ← eval o X.env
      standAt apos.atName
      let (fn, first) ← holding [ov] (getMethod ov m pl)
      callWith pos fn first (backTo pos (starEach [] X.env)) (backToKw pos (keywordEach kws X.env))) := by rfl) :
    PE X (.Call (.Attribute o m apos) [] kws pos) (tMethKW C m ks.length sp gV E ta tk) := by
  refine ⟨fun pins s σ H Q I h => ?_⟩
  refine PySem.W.methodCall_KW (pl := pl) (thn (he.run pins s σ H _ I h) fun u s1 ⟨x, H1, I1, rx, a, dx, fs, ex, ea, l, q⟩ => ?_) ht
  subst ex
  cases (show u = Value.ref a from rx)
  refine getmeth_ok I1 ea c hm l ?_
  refine PySem.W.callWith_KW0 (first := [.ref a]) (h₀ := X.base) I1.ok.mod.kin hm.kp hall ?_ hpl
  refine thn (hkw.run pos pins s1 σ H1 _ I1 q) fun ws s2 ⟨zs, H2, I2, rz, lz, q2⟩ => ⟨I2.kIn, ?_⟩
  rw [hks]
  have r1 : Vals [V.ref a] [Value.ref a] := .cons rfl .nil
  have lw : ws.length = ks.length := rz.length.symm.trans lz
  refine wpAny_call (codeAny_mono (F.run X.A X.stack s2 H2 ⟨[.ref a], ks.zip ws⟩ (g [.ref a] ws) (gV [.ref a] zs) Q E hr I2.env0 (hb.to s2 [.ref a] ws I2.kIn rfl lw) (hb.rel r1 rz) q2) fun r s' hq => ?_)
  cases r with
  | error e => exact hx pins σ H2 s2 e s' I2 hq
  | ok fl =>
    cases fl with
    | ret u => exact I2.after hq
    | next => exact False.elim hq
    | brk => exact False.elim hq
    | cont => exact False.elim hq
end
end L2
namespace AW
open PySem PySem.Spec PyProof.Rows L2
section
variable {c : Cw} {kn : Hp} {n : Nat} {σ : L2.St} {Q : V → Hp → Nat → Prop} {E : XK} {EA : EAK} {B : List V → Hp → AK → AXK → Prop} {C : Addr} {a b : Nat} {gV : List V → List V → List V} {t tk : TA}
theorem w_makeN (hm : MonoX B) (hE : ErrOk c EA E) (h : W c (t σ) kn n fun vs kn1 n1 => W c (tk σ) kn1 n1 fun zs kn2 n2 => vs.length = a ∧ zs.length = b ∧ ∀ x dx, kn2 x = none → kn2 dx = none → dx ≠ x →
    B (gV (.ref x :: vs) zs) (upd (upd kn2 dx (.own x)) x (.ins C dx [])) (fun v k => v = .non ∧ Q (.ref x) k n2) (fun cls d k => EA cls d k n2)) : W c (tMakeN C a b (liftX B) gV E t tk σ) kn n Q :=
  fun H g Q' q => h H g _ fun vs kn1 n1 H1 h1 g1 => h1 H1 g1 _ fun zs kn2 n2 H2 ⟨l1, l2, h2⟩ g2 => ⟨l1, l2, fun x dx hx hdx hne => by
    have hx2 : upd H2 dx (.own x) x = none := by rw [upd_ne (Ne.symm hne)]; exact hx
    exact sp_call (c := c) (n := n2) (Q := fun v k m => v = .non ∧ Q (.ref x) k m) hm hE (h2 x dx (g2.free hx) (g2.free hdx) hne) _ ((g2.new hdx).new hx2) (fun v H3 => v = .non ∧ Q' (.ref x) H3) fun v k m H3 hq g3 => ⟨hq.1, q _ _ _ _ hq.2 g3⟩⟩
theorem w_makeK (hm : MonoX B) (hE : ErrOk c EA E) (h : W c (t σ) kn n fun vs kn1 n1 => W c (tk σ) kn1 n1 fun zs kn2 n2 => vs.length = a ∧ zs.length = b ∧ ∀ x dx, kn2 x = none → kn2 dx = none → dx ≠ x →
    B (gV (.ref x :: vs) zs) (upd (upd kn2 dx (.own x)) x (.ins C dx [])) (fun v k => v = .non ∧ Q (.ref x) k n2) (fun cls d k => EA cls d k n2)) : W c (tMakeK C a b (liftX B) gV E t tk σ) kn n Q :=
  fun H g Q' q => h H g _ fun vs kn1 n1 H1 h1 g1 => h1 H1 g1 _ fun zs kn2 n2 H2 ⟨l1, l2, h2⟩ g2 => ⟨l1, l2, fun x dx hx hdx hne => by
    have hx2 : upd H2 dx (.own x) x = none := by rw [upd_ne (Ne.symm hne)]; exact hx
    exact sp_call (c := c) (n := n2) (Q := fun v k m => v = .non ∧ Q (.ref x) k m) hm hE (h2 x dx (g2.free hx) (g2.free hdx) hne) _ ((g2.new hdx).new hx2) (fun v H3 => v = .non ∧ Q' (.ref x) H3) fun v k m H3 hq g3 => ⟨hq.1, q _ _ _ _ hq.2 g3⟩⟩
theorem w_methKW {m : Str} {ta : TE} (hm : MonoX B) (hE : ErrOk c EA E) (h : W c (ta σ) kn n fun x kn1 n1 => ∃ a dx fs, x = .ref a ∧ kn1 a = some (.ins C dx fs) ∧ fs.lookup m = none ∧
    W c (tk σ) kn1 n1 fun zs kn2 n2 => zs.length = b ∧ B (gV [.ref a] zs) kn2 (fun v k => Q v k n2) (fun cls d k => EA cls d k n2)) : W c (tMethKW C m b (liftX B) gV E ta tk σ) kn n Q :=
  fun H g Q' q => h H g _ fun x kn1 n1 H1 h1 g1 => by
    obtain ⟨a, dx, fs, rfl, ha, hl, h2⟩ := h1
    exact ⟨a, dx, fs, rfl, g1.ex _ _ ha, hl, h2 H1 g1 _ fun zs kn2 n2 H2 ⟨lz, h3⟩ g2 => ⟨lz, sp_call hm hE h3 H2 g2 Q' q⟩⟩
end
end AW

/-! Own errors as values: made with keywords, made without an own __init__, their class asked, their fields read. -/
namespace PySem
namespace XVal
open Builtin PyProof.Rows
section
variable {prog : Program} {w : World} {A : Around} {EE : Value → Shared → Prop} {R : Result → Shared → Prop} {hp : Heap} {ge : Array GenState} {dr : Drawn} {tk : Nat} {ox : OsState}
variable {nm q : Str} {C N : Addr} {bs bm bmB : List Value} {hdct : Bool} {sn : List Str} {sub : List Value} {ab : Bool} {col : Option Bool} {dd : Option Addr} {k0 k1 k2 k3 k5 : Option Value} {B newId initId : String}
variable {xs : List Value} {kws : List (Str × Value)}
theorem new_checked {M : Model} (F : ExcBaseFacts B newId initId bmB) (sameT : ∀ T : String, bm.contains (.type T) = bmB.contains (.type T)) {Q : Unit → Shared → Prop}
    (gC : hp.get? C = some (excClassObj nm q C N bs bm hdct sn sub ab col dd k0 k1 k2 k3 k5 newId)) (go : Q () ⟨hp, ge, dr, tk, ox⟩) : wpAny M A (checkBuiltinCall newId ⟨.ref C :: xs, kws⟩) Q EE ⟨hp, ge, dr, tk, ox⟩ := by
  have inB : (Value.ref C :: bm).contains (.type B) = true := by rw [List.contains_cons, sameT, F.hasB, Bool.or_true]
  have st := F.noStar
  simp only [checkBuiltinCall, F.newKind, F.newSplit, F.newRow]
  repeat (first | refine wpAny_loadPart_at gC ?_ | (refine wpAny_isSubtype_exc gC ?_; rw [inB]) | refine wpAny_staticBase_exc gC ?_ | refine wpAny_madeBy_exc gC ?_ | simp only [bne_self_eq_false, Bool.false_eq_true, if_false] | wp_step)
  exact go
theorem new_made (F : ExcBaseFacts B newId initId bmB) (sameT : ∀ T : String, bm.contains (.type T) = bmB.contains (.type T)) (small : xs.length ≤ sizeLine)
    (gC : hp.get? C = some (excClassObj nm q C N bs bm hdct sn sub ab col dd k0 k1 k2 k3 k5 newId))
    (go : R (.ok (.ret (.ref (hp.objs.size + 1)))) ⟨(hp.push (PySem.W.kdv_tup xs)).push (HandSPX.excO C hp.objs.size), ge, dr, tk, ox⟩) :
    codeAny (model prog w) A (.builtin newId ⟨.ref C :: xs, kws⟩) R ⟨hp, ge, dr, tk, ox⟩ := by
  have en := F.ends
  have inB : (Value.ref C :: bm).contains (.type B) = true := by rw [List.contains_cons, sameT, F.hasB, Bool.or_true]
  have noA : (Value.ref C :: bm).contains (.type "AttributeError") = false := by rw [List.contains_cons, sameT, F.noAttr]; rfl
  have noN : (Value.ref C :: bm).contains (.type "NameError") = false := by rw [List.contains_cons, sameT, F.noName]; rfl
  have small := small
  refine codeAny_builtinAt F.entry ?_
  unfold Builtin.«BaseException.__new__»
  refine wpAt_bind ?_
  show wpAt _ _ _ (stack >>= _) _ _ _
  refine wpAt_bind (wpAt_stack fun pp bb => wpAt_of_wpAny ?_)
  wp_walk
  refine wpAt_of_wpAny ?_
  rw [F.owner]
  repeat (first | with_reducible refine wpAny_madeHere_exc F.canon gC ?_ | with_reducible refine wpAny_loadPart_at gC ?_ | (with_reducible refine wpAny_isSubtype_exc gC ?_; first | rw [inB] | rw [noA] | rw [noN]) | wp_step)
  show R _ _
  rw [Heap.size_push]
  exact go
theorem type_called (F : ExcBaseFacts B newId initId bmB) (sameT : ∀ T : String, bm.contains (.type T) = bmB.contains (.type T)) (small : xs.length ≤ sizeLine) {fI : Addr} {Q : Fin → Shared → Prop}
    (gC : hp.get? C = some (excClassObj nm q C N bs bm hdct sn sub ab col dd k0 k1 k2 k3 k5 newId))
    (gi : W.Looks (model prog w) hp (typeLookup (.ref C) "__init__") (some (.ref fI))) (gb : ∀ self, W.Looks (model prog w) hp (bindSpecial (.ref fI) self) (.ref fI, [self]))
    (go : codeAny (model prog w) A (.call (.ref fI) ⟨.ref (hp.objs.size + 1) :: xs, kws⟩)
      (fun r s' => match r with | .ok (.ret v) => v = .none ∧ Q (.done (.ret (.ref (hp.objs.size + 1)))) s' | .ok _ => False | .error e => EE e s')
      ⟨(hp.push (PySem.W.kdv_tup xs)).push (HandSPX.excO C hp.objs.size), ge, dr, tk, ox⟩) :
    wpAny (model prog w) A (Builtin.«type.__call__» ⟨.ref C :: xs, kws⟩) Q EE ⟨hp, ge, dr, tk, ox⟩ := by
  repeat (first | with_reducible refine wpAny_loadPart_at gC ?_ | with_reducible refine wpAny_madeBy_exc gC ?_ | wp_step)
  refine codeAny_call_builtin_code (Code.quiet_builtin _ F.quiet) (new_checked F sameT gC ?_)
  refine new_made F sameT small gC ?_
  show wpAny _ _ _ _ _ _
  have kk : ∀ b o, hp.get? b = some o → ((hp.push (PySem.W.kdv_tup xs)).push (HandSPX.excO C hp.objs.size)).get? b = some o := fun b o e => Heap.get?_push_of_some _ (Heap.get?_push_of_some _ e)
  have gC2 := kk _ _ gC
  have ge2 : ((hp.push (PySem.W.kdv_tup xs)).push (HandSPX.excO C hp.objs.size)).get? (hp.objs.size + 1) = some (HandSPX.excO C hp.objs.size) := by heap_get
  have inC : (Value.ref C :: bm).contains (.ref C) = true := by simp
  have i2 := gi.keeps kk
  have b2 := (gb (.ref (hp.objs.size + 1))).keeps kk
  unfold isInstance
  repeat (first | with_reducible refine wpAny_loadPart_at ge2 ?_ | (with_reducible refine wpAny_isSubtype_exc gC2 ?_; rw [inC]) | wp_step)
  show wpAny _ _ (typeLookup (.ref C) _) _ _ _
  refine i2.at ?_
  refine wpAny_holding (wpAny_bind (b2.at ?_))
  refine wpAny_bind (wpAny_call (codeAny_mono go fun r s' z => ?_))
  rcases r with e | (v | _ | _ | _) <;> first | exact z | exact z.elim | skip
  obtain ⟨rfl, z⟩ := z
  first
    | exact wpAny_pure (wpAny_pure z)
    | (wp_walk; exact z)
theorem called_kw (F : ExcBaseFacts B newId initId bmB) (sameT : ∀ T : String, bm.contains (.type T) = bmB.contains (.type T)) (small : xs.length ≤ sizeLine) {fI : Addr}
    (gC : hp.get? C = some (excClassObj nm q C N bs bm hdct sn sub ab col dd k0 k1 k2 k3 k5 newId))
    (gi : W.Looks (model prog w) hp (typeLookup (.ref C) "__init__") (some (.ref fI))) (gb : ∀ self, W.Looks (model prog w) hp (bindSpecial (.ref fI) self) (.ref fI, [self]))
    (go : codeAny (model prog w) (A.under (.builtin "type.__call__" ⟨.ref C :: xs, kws⟩)) (.call (.ref fI) ⟨.ref (hp.objs.size + 1) :: xs, kws⟩) (W.InitBack (hp.objs.size + 1) R)
      ⟨(hp.push (PySem.W.kdv_tup xs)).push (HandSPX.excO C hp.objs.size), ge, dr, tk, ox⟩) :
    codeAny (model prog w) A (.call (.ref C) ⟨xs, kws⟩) R ⟨hp, ge, dr, tk, ox⟩ := by
  have l1 := tc_lookup
  have l2 := tc_bind (.ref C)
  have isTy : (⟨hp, ge, dr, tk, ox⟩ : Shared).TypeIs (.ref C) "type" := ⟨_, gC, rfl⟩
  refine codeAny_of_tree ?_
  show wpAny _ _ (callAny (.ref C) _) _ _ _
  repeat (any_goals (first | assumption | with_reducible refine wpAny_loadPart_at gC ?_ | wp_step))
  refine ⟨rfl, ?_⟩
  refine codeAny_call_builtin_at (Code.quiet_builtin _ (by decide +kernel)) entry_typeCall (wpAny_check_type_call_sub gC (type_called F sameT small gC gi gb ?_))
  refine codeAny_mono go fun r s' z => ?_
  rcases r with e | (v | _ | _ | _) <;> exact z
end
end XVal
end PySem
namespace L2
open PySem PySem.Spec PyProof.Rows
section
variable {X : Cx} {CX : CXT} {k : Nat} {C fI : Addr} {fd : FuncData} {ps ks : List Str} {sp : Sp} {pins : List (Addr × Obj)} {σ : St} {H : Hp} {s : Shared} {ws : List Value} {zs : List V} {g : List Value → List Value → List Value} {gV : List V → List V → List V}
/-- C(k = v, ..), an own error with its own __init__ -/
def tMkK (C : Addr) (m : Nat) (sp : Sp) (gV : List V → List V → List V) (tk : TA) : TE := fun σ H Q => tk σ H fun zs H1 => zs.length = m ∧ ∀ a, H1 a = none → sp (gV [.ref a] zs) (upd H1 a (exo a C none)) (fun v H2 => v = .non ∧ Q (.ref a) H2) (fun _ _ _ => False)
theorem oexK_core (T : OexC X.K C) (iC : PySem.W.findIn X.K (.ref C) "__init__" = some (some (.ref fI))) (tI : PySem.W.typeIn X.K (.ref fI) = some (.type "function")) (F : FnOk X.prog X.w X.K X.mg X.base CX k fI fd ps sp) (hr : Room (k + 1) X.A) (hb : KBn X.K fd ps 1 ks g gV)
    (hx : Passes CX X (fun _ _ _ => False)) (I : Inv X pins σ H s) (rz : Vals zs ws) (lz : zs.length = ks.length) {Q : VK}
    (hsp : ∀ a, H a = none → sp (gV [.ref a] zs) (upd H a (exo a C none)) (fun v H2 => v = .non ∧ Q (.ref a) H2) (fun _ _ _ => False)) :
    wpAny (model X.prog X.w) X.A (call (.ref C) [] (ks.zip ws)) (EP X pins σ Q) X.xe s := by
  obtain ⟨hp, ge, dr, tk, os⟩ := s
  obtain ⟨nm, q, N, bs, bm, sn, sub, ab, col, dd, k0, k1, k2, k3, k5, lk, hbm⟩ := T.cls
  have keeps : ∀ b o, hp.get? b = some o → ((hp.push (PySem.W.kdv_tup [])).push (HandSPX.excO C hp.objs.size)).get? b = some o := fun b o e => Heap.get?_push_of_some _ (Heap.get?_push_of_some _ e)
  have hn : H (hp.objs.size + 1) = none := I.hok.fresh (Nat.le_succ _)
  have hsz : (hp.push (PySem.W.kdv_tup [])).objs.size = hp.objs.size + 1 := by simp [Heap.push]
  have I2 : Inv X pins σ (upd H (hp.objs.size + 1) (exo (hp.objs.size + 1) C none)) ⟨(hp.push (PySem.W.kdv_tup [])).push (HandSPX.excO C hp.objs.size), ge, dr, tk, os⟩ :=
    I.laid (t' := tk) keeps (Nat.le_succ _) (exo_ok (t1 := hp.objs.size) (by rw [← hsz]; exact Heap.get?_push_size _ rfl))
  refine wpAny_call ?_
  refine XVal.called_kw PySem.F.excBase_ValueError (fun Y => HandSPX.refsVE_contains Y _ hbm) (Nat.zero_le _) (I.kIn _ _ lk) (PySem.W.looks_findIn I.kIn iC) (fun self => PySem.W.bind_fn I.kIn self tI) ?_
  have r1 : Vals [V.ref (hp.objs.size + 1)] [Value.ref (hp.objs.size + 1)] := .cons rfl .nil
  have e2 := I2.env0
  refine codeAny_mono (F.run (X.A.under (.builtin "type.__call__" { pos := .ref C :: [], kw := ks.zip ws })) X.stack _ _ ⟨[.ref (hp.objs.size + 1)], ks.zip ws⟩ (g [.ref (hp.objs.size + 1)] ws) (gV [.ref (hp.objs.size + 1)] zs) _ _ (hr.make C [] (ks.zip ws)) ⟨e2.frames, e2.mod, e2.bs, e2.bsz, e2.funs, e2.frf, e2.hok, e2.bare⟩
    (hb.to _ [.ref (hp.objs.size + 1)] ws I2.kIn rfl (rz.length.symm.trans lz)) (hb.rel r1 rz) (hsp _ hn)) fun r s' hq => ?_
  cases r with
  | error e => exact hx pins σ _ _ e s' I2 hq
  | ok fl =>
    cases fl with
    | ret u =>
      obtain ⟨v, H', I3, rv, ev, q3⟩ := I2.after hq
      subst ev
      exact ⟨rv, ⟨V.ref (hp.objs.size + 1), H', I3, rfl, q3⟩⟩
    | next => exact False.elim hq
    | brk => exact False.elim hq
    | cont => exact False.elim hq
variable {x : Str} {kws : List Keyword} {tk : TA} {p pos : Pos}
theorem pe_oexK (T : OexC X.K C) (iC : PySem.W.findIn X.K (.ref C) "__init__" = some (some (.ref fI))) (tI : PySem.W.typeIn X.K (.ref fI) = some (.type "function")) (F : FnOk X.prog X.w X.K X.mg X.base CX k fI fd ps sp) (hr : Room (k + 1) X.A) (hb : KBn X.K fd ps 1 ks g gV)
    (hx : Passes CX X (fun _ _ _ => False)) (hg : Gl X x) (hm : X.mg x = some (.ref C)) (hkw : PK X kws tk)
    (hall : (backToKw pos (keywordEach kws X.env)).all (·.1.isSome) = true := by rfl) (hks : (backToKw pos (keywordEach kws X.env)).filterMap (·.1) = ks := by rfl) (hdb : (x == ("__debug__" : Str)) = false := by decide)
    (hpl : ((backTo pos (starEach [] X.env)).any (·.1) || (backToKw pos (keywordEach kws X.env)).any (·.1.isNone)) = false := by rfl) :
    PE X (.Call (.Name x p) [] kws pos) (tMkK C ks.length sp gV tk) := by
  refine ⟨fun pins s σ H Q I h => wpAny_Call_Name_kw (ld_glob I hg hm ?_ hdb)⟩
  refine PySem.W.callWith_KW0 (h₀ := X.base) I.ok.mod.kin T.kC hall ?_ hpl
  refine thn (hkw.run pos pins s σ H _ I h) fun ws s2 ⟨zs, H2, I2, rz, l2, q2⟩ => ⟨I2.kIn, ?_⟩
  rw [hks]
  exact oexK_core T iC tI F hr hb hx I2 rz l2 q2
/-- C(), an own error without an own __init__ -/
def tMk0 (C : Addr) : TE := fun _ H Q => ∀ a, H a = none → Q (.ref a) (upd H a (exo a C none))
theorem pe_oex0 (T : OexC X.K C) (iC : PySem.W.findIn X.K (.ref C) "__init__" = some (some (.builtin "ValueError.__init__"))) (hg : Gl X x) (hm : X.mg x = some (.ref C)) (hdb : (x == ("__debug__" : Str)) = false := by decide) :
    PE X (.Call (.Name x p) [] [] pos) (tMk0 C) := by
  refine ⟨fun pins s σ H Q I h => wpAny_Call_Name_kw (ld_glob I hg hm ?_ hdb)⟩
  obtain ⟨hp, ge, dr, tk, os⟩ := s
  obtain ⟨nm, q, N, bs, bm, sn, sub, ab, col, dd, k0, k1, k2, k3, k5, lk, hbm⟩ := T.cls
  refine PySem.W.callWith_K0 I.kIn T.kC ?_
  refine PySem.W.call_B PySem.F.excBase_ValueError (fun Y => HandSPX.refsVE_contains Y _ hbm) (I.kIn _ _ lk) (PySem.W.looks_findIn I.kIn iC) (Nat.zero_le _) fun h' kp he ht => ?_
  have I2 : Inv X pins σ (upd H (hp.objs.size + 1) (exo (hp.objs.size + 1) C none)) ⟨h', ge, dr, tk, os⟩ := I.laid (t' := tk) kp (Nat.le_succ _) (exo_ok (t1 := hp.objs.size + 2) he)
  exact ⟨V.ref (hp.objs.size + 1), _, I2, rfl, h _ (I.hok.fresh (Nat.le_succ _))⟩
/-! ### the class of such a value, its fields -/
theorem exo_inst {K : PySem.W.Frag} {a D : Addr} {d : Option Addr} {fs : List (Str × V)} (I : Inv X pins σ H s) (ea : H a = some (exo a D d)) (ed : ∀ dd, d = some dd → H dd = some (exd dd fs)) :
    ∃ (oe : Obj) (od : Option Obj), PySem.W.InstAt s.heap a oe D od ∧ (d.isSome = od.isSome) ∧ ∀ name, d.isSome = true → ∃ m : Str → Option Value, PySem.W.lookIn name (od.getD oe) = some (m name) ∧ ∀ f, RelO (fs.lookup f) (m f) := by
  obtain ⟨t1, ho⟩ := exo_at I.hok ea
  cases d with
  | none => exact ⟨_, none, ⟨ho, rfl, rfl, True.intro⟩, rfl, fun _ z => nomatch z⟩
  | some dd =>
    obtain ⟨mA, hns, hr⟩ := exd_at I.hok (ed dd rfl)
    obtain ⟨od, h2, hl⟩ := lookIn_ns hns
    exact ⟨_, some od, ⟨ho, rfl, rfl, h2⟩, rfl, fun name _ => ⟨mA, hl name, hr⟩⟩
theorem data_of {K : PySem.W.Frag} {D : Addr} {od : Option Obj} {name : Str} {a z : Value} (hc : (PySem.W.clsIn K D).isSome = true) (ha : PySem.W.findIn K (.ref D) name = some (some a)) (hg : PySem.W.specialIn K a "__get__" = some (some z)) (ht : PySem.W.takesIn K a = some true) :
    PySem.W.findObj K D od name = some (.bind z a) := by
  obtain ⟨cd, hc⟩ := Option.isSome_iff_exists.mp hc
  unfold PySem.W.findObj
  rw [hc, Option.bind_some, ha, Option.bind_some]
  simp [hg, ht]
/-- isinstance(e, c), e an own error that was made -/
def rIsV (K : PySem.W.Frag) : List V → Hp → VK → Prop := fun xs H Q => ∃ (a D : Addr) (d : Option Addr) (fs : List (Str × V)) (c : V) (cv : Value) (b : Bool), xs = [.ref a, c] ∧ ClsV c cv ∧ H a = some (exo a D d) ∧ (∀ dd, d = some dd → H dd = some (exd dd fs)) ∧ ExcC K D ∧ PySem.W.kitOne K (.ref D) cv = some b ∧ Q (.bl b) H
theorem call_isV : CallR X (.builtin "isinstance") (rIsV X.K) := by
  intro pins s σ H xs us Q I r h
  obtain ⟨a, D, d, fs, c, cv, b, rfl, hcv, ea, ed, G, e, q⟩ := h
  obtain ⟨u1, u2, rfl, r1, r2⟩ := vals2 r
  cases (show u1 = Value.ref a from r1)
  have ec := hcv.eq r2
  subst ec
  obtain ⟨oe, od, J, hd, _⟩ := exo_inst (K := X.K) I ea ed
  have hf := data_of (K := X.K) (D := D) (od := od) (name := "__class__") (by obtain ⟨cd, hc, _⟩ := PySem.W.any_some G.hd; rw [hc]; rfl) G.ha G.hn G.ht
  exact PySem.W.kia_one (PySem.W.kxc_kit G hf) I.kIn J e (fun z => nomatch z) fun tk => ⟨.bl b, H, I.tok tk, rfl, q⟩
/-- e.f, e such an error -/
def tXv (K : PySem.W.Frag) (te : TE) (f : Str) : TE := fun σ H Q => te σ H fun x H1 => ∃ (a D dd : Addr) (fs : List (Str × V)) (v : V), x = .ref a ∧ H1 a = some (exo a D (some dd)) ∧ H1 dd = some (exd dd fs) ∧ XfC K D ∧ PySem.W.findIn K (.ref D) f = some none ∧ fs.lookup f = some v ∧ Q v H1
theorem pe_xv {e : Expr} {te : TE} {pos : Pos} {n : Str} (he : PE X e te) (hb : attributeBase e n X.env (eval e X.env) = eval e X.env := by rfl) : PE X (.Attribute e n pos) (tXv X.K te n) := by
  refine ⟨fun pins s σ H Q I h => attr_of hb (thn (he.run pins s σ H _ I h) fun u s1 hh => ?_)⟩
  obtain ⟨x, H1, I1, rx, a, D, dd, fs, v, ex, ea, ed, T, hno, l, q⟩ := hh
  subst ex
  obtain rfl : u = Value.ref a := rx
  obtain ⟨oe, od, J, hd, hl⟩ := exo_inst (K := X.K) I1 ea (fun d' e' => by cases e'; exact ed)
  cases od with
  | none => cases hd
  | some od =>
    obtain ⟨m, h1, h2⟩ := hl n rfl
    obtain ⟨u, hu, ru⟩ := RelO.some_of (v := v) (o := m n) (by rw [← l]; exact h2 n)
    exact HandSPX.exc_get I1.kIn J T.ga T.gg T.exC (PySem.W.findObj_own T.hdC hno rfl (by rw [← hu]; exact h1)) (handed_of ru) ⟨v, H1, I1.tok _, ru, q⟩
end
end L2

/-! C.m(k = v, ..) of a static method; repr of a list of tuples in which empty dicts may lie. -/
namespace L2
open PySem PySem.Spec PyProof.Rows ClX
/-- C.m(k = v, ..), no positional argument -/
def tSMethKW (C : Addr) (b : Nat) (sp : Sp) (gV : List V → List V → List V) (E : XK) (ta : TE) (tk : TA) : TE := fun σ H Q => ta σ H fun x H1 => x = .ref C ∧ tk σ H1 fun zs H2 => zs.length = b ∧ sp (gV [] zs) H2 Q E
section
variable {X : Cx} {CX : CXT} {k : Nat} {f C p : Addr} {mc : Value} {fd : FuncData} {ps ks : List Str} {sp : Sp} {E : XK} {m : Str} {apos pos : Pos} {o : Expr} {kws : List Keyword} {ta : TE} {tk : TA} {g : List Value → List Value → List Value} {gV : List V → List V → List V}
theorem pe_smethKW {pl : Sem Bool} (he : PE X o ta) (r : CRead X.K C mc) (c : SMet X.K C mc m p f) (F : FnOk X.prog X.w X.K X.mg X.base CX k f fd ps sp) (hr : Room k X.A) (hb : KBn X.K fd ps 0 ks g gV) (hx : Passes CX X E) (hkw : PK X kws tk)
    (hall : (backToKw pos (keywordEach kws X.env)).all (·.1.isSome) = true := by rfl) (hks : (backToKw pos (keywordEach kws X.env)).filterMap (·.1) = ks := by rfl)
    (hpl : ((backTo pos (starEach [] X.env)).any (·.1) || (backToKw pos (keywordEach kws X.env)).any (·.1.isNone)) = false := by rfl)
    (ht : eval (.Call (.Attribute o m apos) [] kws pos) X.env = (eval o X.env >>= fun ov => standAt apos.atName >>= fun _ => holding [ov] (getMethod ov m pl) >>= fun q => callWith pos q.1 q.2 (backTo pos (starEach [] X.env)) (backToKw pos (keywordEach kws X.env))) := by rfl) :
    PE X (.Call (.Attribute o m apos) [] kws pos) (tSMethKW C ks.length sp gV E ta tk) := ⟨fun pins s σ H Q I h => by
  refine PySem.W.methodCall_KW (pl := pl) (thn (he.run pins s σ H _ I h) fun u sA ⟨x, HA, IA, rx, ex, qA⟩ => ?_) ht
  obtain rfl : u = Value.ref C := by rw [ex] at rx; exact rx
  refine getsm_ok IA r c fun sB IB => ?_
  refine PySem.W.callWith_KW0 (first := []) (h₀ := X.base) IB.ok.mod.kin c.kp hall (thn (hkw.run pos pins sB σ HA _ IB qA) fun ws sC ⟨zs, HC, IC, rz, lz, qC⟩ => ⟨IC.kIn, ?_⟩) hpl
  rw [hks]
  refine wpAny_call (codeAny_mono (F.run X.A X.stack sC HC ⟨[], ks.zip ws⟩ (g [] ws) (gV [] zs) Q E hr IC.env0 (hb.to sC [] ws IC.kIn rfl (rz.length.symm.trans lz)) (hb.rel .nil rz) qC) fun res sD hq => ?_)
  match res, hq with
  | .error e, hq => exact hx pins σ HC sC e sD IC hq
  | .ok (.ret u), hq => exact IC.after hq
  | .ok .next, hq => exact hq.elim
  | .ok .brk, hq => exact hq.elim
  | .ok .cont, hq => exact hq.elim⟩
end
/-! ### repr where empty dicts lie -/
/-- a plain value or an empty dict -/
inductive Dz (H : Hp) : V → PyData → Prop
  | non : Dz H .non .none
  | bl (b : Bool) : Dz H (.bl b) (.bool b)
  | int (i : Int) : Dz H (.int i) (.int i)
  | emp {a : Addr} : H a = some (.dK []) → Dz H (.ref a) (.dict [])
/-- tuples (text, such a value) -/
inductive DzAll (K : PySem.W.Frag) (H : Hp) : List V → List PyData → Prop
  | nil : DzAll K H [] []
  | cons {a : Addr} {t : Str} {y : V} {d : PyData} {vs : List V} {ds : List PyData} : SqT K H a [.str t, y] → Dz H y d → DzAll K H vs ds → DzAll K H (.ref a :: vs) (.tuple [.str t, d] :: ds)
section
variable {X : Cx} {pins : List (Addr × Obj)} {σ : St} {H : Hp} {s : Shared}
theorem Dz.reads (I : Inv X pins σ H s) {v : V} {u : Value} {d : PyData} (h : Dz H v d) (r : RelV v u) : ∃ as, Reads s.heap u d as ∧ sysModules ∉ as := by
  cases h with
  | non => cases r; exact ⟨_, .none, by simp⟩
  | bl b => cases r; exact ⟨_, .bool b, by simp⟩
  | int i => obtain ⟨t, rfl⟩ := r; exact ⟨_, .int i t, by simp⟩
  | emp ha =>
    cases r
    obtain ⟨_, hs, vs, rel, o, es, ep, ho, hx, hd, he⟩ := dk_of I.hok ha
    have e0 : vs = [] := by cases rel; rfl
    subst e0
    have e1 : es.toList = [] := by
      have hp := he.2.1
      generalize es.toList = l at hp
      cases l with
      | nil => rfl
      | cons x r => first | cases hp | exact hp.elim | simp [Pairs] at hp
    refine ⟨_, .dict (as := []) (bs := []) (kvs := []) ho hx.1 hd (by rw [e1]; exact .nil) (by rw [e1]; exact .nil), fun hm => ?_⟩
    rcases List.mem_cons.1 hm with e | e
    · rw [← e] at hs; simp at hs
    · cases e
theorem DzAll.reads (I : Inv X pins σ H s) : ∀ {vs : List V} {us : List Value} {ds : List PyData}, DzAll X.K H vs ds → Vals vs us → ∃ as, ReadsAll s.heap us ds as ∧ sysModules ∉ as
  | _, _, _, .nil, r => by cases r; exact ⟨_, .nil, by simp⟩
  | _, _, _, .cons ha hy hr, r => by
    cases r with
    | cons ru rs =>
      cases ru
      obtain ⟨its, rv, ⟨o, ho, hc, n, hd⟩, _⟩ := I.tuple ha
      cases rv with
      | cons r1 r2 =>
        cases r2 with
        | cons r2 r3 =>
          cases r3
          obtain ⟨t, rfl⟩ := r1
          obtain ⟨as, q1, n1⟩ := hy.reads I r2
          obtain ⟨bs, q2, n2⟩ := DzAll.reads I hr rs
          refine ⟨_, .cons (.tuple ho hc hd (.cons (.str _ t) (.cons q1 .nil))) q2, fun hm => ?_⟩
          rcases List.mem_append.1 hm with e | e
          · simp only [List.nil_append, List.append_nil] at e
            exact n1 e
          · exact n2 e
end
def rReprZ (K : PySem.W.Frag) : List V → Hp → VK → Prop := fun xs H Q => rRepr K xs H Q ∨
  ∃ (a : Addr) (vs : List V) (ds : List PyData), xs = [.ref a] ∧ SqL K H a vs ∧ vs ≠ [] ∧ DzAll K H vs ds ∧ PyData.showableAll ds = true ∧ PyData.depth (.list ds) ≤ 64 ∧ (PyData.shown (.list ds)).length ≤ sizeLine ∧ Q (.str (PyData.shown (.list ds))) H
theorem c_reprZ {X : Cx} (hG : X.A.guards = some []) (hu : X.A.units + 128 < cLine) : CallR X (.builtin "repr") (rReprZ X.K) := by
  intro pins s σ H xs us Q I r h
  rcases h with h | ⟨a, vs, ds, rfl, hl, hne, hz, h1, h3, h4, q⟩
  · exact c_repr hG hu pins s σ H xs us Q I r h
  obtain ⟨u, rfl, rx⟩ := vals1 r
  cases (show u = Value.ref a from rx)
  obtain ⟨its, rv, ⟨o, n, ho, hc, _, hd⟩, _⟩ := I.list hl
  obtain ⟨as, hr, hs⟩ := hz.reads I rv
  have h4' : (listText (PyData.shownAll ds)).length ≤ sizeLine := by simpa only [PyData.shown] using h4
  obtain ⟨bs, hb, hk⟩ := ReprAllK.of_readsAll (prog := X.prog) (w := X.w) hr h1 (fun _ => hs) fun t ht => Nat.le_trans (listText_mem_le ht) h4'
  have nb : a ∉ bs := not_mem_of_deeper (.list ho hc hd hr) (by simp only [PyData.depth]; omega) hb
  simp only [PyData.depth] at h3
  simp only [PyData.shown] at q
  cases its with
  | nil => cases rv; exact absurd rfl hne
  | cons z zs =>
    refine call_repr_slot (by omega) ⟨o, ho, hc⟩ PySem.F.slot_list_repr.toG (call_list_reprK ho hc hd nb (by simpa using hk.length_eq) (fun i y e => hk.item i y (by simpa using e)) hG (fun b _ => Clear.nil b) (by show X.A.units + 1 + _ < cLine; omega) (fun _ _ e => e) (fun h' u tk hk' => ?_) h4')
    exact ⟨_, _, rfl, .str _, H, I.kept hk', ⟨u, rfl⟩, q⟩
end L2
namespace AW
open PySem PySem.Spec PyProof.Rows L2
section
variable {c : Cw} {kn : Hp} {n : Nat} {σ : L2.St} {Q : V → Hp → Nat → Prop} {E : XK} {EA : EAK} {B : List V → Hp → AK → AXK → Prop} {C : Addr} {b : Nat} {gV : List V → List V → List V} {ta : TE} {tk : TA} {K : PySem.W.Frag}
theorem w_smethKW (hm : MonoX B) (hE : ErrOk c EA E) (h : W c (ta σ) kn n fun x kn1 n1 => x = .ref C ∧ W c (tk σ) kn1 n1 fun zs kn2 n2 => zs.length = b ∧ B (gV [] zs) kn2 (fun v k => Q v k n2) (fun cls d k => EA cls d k n2)) : W c (tSMethKW C b (liftX B) gV E ta tk σ) kn n Q :=
  fun H g Q' q => h H g _ fun x kn1 n1 H1 ⟨e, h1⟩ g1 => ⟨e, h1 H1 g1 _ fun zs kn2 n2 H2 ⟨l, h2⟩ g2 => ⟨l, sp_call hm hE h2 H2 g2 Q' q⟩⟩
theorem dz_ext {H H' : Hp} (e : Ext H H') {v : V} {d : PyData} (h : Dz H v d) : Dz H' v d := by
  cases h with
  | non => exact .non
  | bl b => exact .bl b
  | int i => exact .int i
  | emp ha => exact .emp (e _ _ ha)
/-- the tuples stand in what is known -/
inductive DzK (k : Hp) : List V → List PyData → Prop
  | nil : DzK k [] []
  | cons {a : Addr} {t : Str} {y : V} {d : PyData} {vs : List V} {ds : List PyData} : k a = some (.tup [.str t, y]) → Dz k y d → DzK k vs ds → DzK k (.ref a :: vs) (.tuple [.str t, d] :: ds)
theorem DzK.all {k H : Hp} (e : Ext k H) : ∀ {vs : List V} {ds : List PyData}, DzK k vs ds → DzAll K H vs ds
  | _, _, .nil => .nil
  | _, _, .cons a y r => .cons (sqt (e _ _ a)) (dz_ext e y) (r.all e)
theorem r_reprZ {a : Addr} {vs : List V} {ds : List PyData} (h : kn a = some (.lst vs)) (hne : vs ≠ []) (hz : DzK kn vs ds) (h1 : PyData.showableAll ds = true) (h3 : PyData.depth (.list ds) ≤ 64) (h4 : (PyData.shown (.list ds)).length ≤ sizeLine)
    (q : Q (.str (PyData.shown (.list ds))) kn n) : W c (rReprZ K [.ref a]) kn n Q :=
  fun H g Q' k => .inr ⟨a, vs, ds, rfl, sql (g.ex _ _ h), hne, hz.all g.ex, h1, h3, h4, k _ kn n H q g⟩
theorem r_reprD {a : Addr} {d : PyData} (hd : Dp K kn (.ref a) d) (h1 : d.showable = true) (h2 : d.hasDict = false) (h3 : d.depth ≤ 64) (h4 : d.shown.length ≤ sizeLine) (q : Q (.str d.shown) kn n) : W c (rReprZ K [.ref a]) kn n Q :=
  fun H g Q' k => .inl (r_repr hd h1 h2 h3 h4 q H g Q' k)
end
end AW

/-! Lists that are not the table of modules; repr of a plain value, of a list or tuple of such, of a dict of one list, and of a list of all these. -/
namespace L2
open PySem PySem.Spec PyProof.Rows
/-- [e, ..], and it is not the table of modules -/
def tLstB (t : TA) : TE := fun σ H Q => t σ H fun xs H1 => xs.length ≤ sizeLine ∧ ∀ p, H1 p = none → (p == sysModules) = false → Q (.ref p) (upd H1 p (.lst xs))
theorem pe_lstB {X : Cx} {es : List Expr} {t : TA} {pos : Pos} (h : PA X es t) : PE X (.List es pos) (tLstB t) := by
  refine ⟨fun pins s σ H Q I hq => ?_⟩
  refine wpAny_List_spliced (thn (h.run pos pins s σ H _ I hq) fun us s1 ⟨xs, H1, I1, r, z, q⟩ => ⟨by rw [← r.length]; exact z, ?_⟩)
  have hf : H1 s1.heap.objs.size = none := I1.hok.fresh (Nat.le_refl _)
  have ns : (s1.heap.objs.size == sysModules) = false := beq_eq_false_iff_ne.mpr (Nat.ne_of_gt I1.big)
  exact ⟨.ref s1.heap.objs.size, upd H1 s1.heap.objs.size (.lst xs), I1.laid (t' := s1.toks) (fun b u e => Heap.get?_push_of_some _ e) (Nat.le_refl _) ⟨z, us, 0, r, Heap.get?_push_size _ rfl⟩, rfl, q _ hf ns⟩
/-- a plain value -/
inductive Da : V → PyData → Prop
  | non : Da .non .none
  | bl (b : Bool) : Da (.bl b) (.bool b)
  | int (i : Int) : Da (.int i) (.int i)
  | str (x : Str) : Da (.str x) (.str x)
inductive DaAll : List V → List PyData → Prop
  | nil : DaAll [] []
  | cons {v : V} {d : PyData} {vs : List V} {ds : List PyData} : Da v d → DaAll vs ds → DaAll (v :: vs) (d :: ds)
/-- such a value, a list or tuple of such, a dict of one such list -/
inductive Dq (H : Hp) : V → PyData → Prop
  | at {v : V} {d : PyData} : Da v d → Dq H v d
  | lst {a : Addr} {xs : List V} {ds : List PyData} : H a = some (.lst xs) → (a == sysModules) = false → DaAll xs ds → Dq H (.ref a) (.list ds)
  | tup {a : Addr} {xs : List V} {ds : List PyData} : H a = some (.tup xs) → DaAll xs ds → Dq H (.ref a) (.tuple ds)
  | dic {a b : Addr} {x : Str} {xs : List V} {ds : List PyData} : H a = some (.dK [(.inr x, .ref b)]) → H b = some (.lst xs) → (b == sysModules) = false → DaAll xs ds → Dq H (.ref a) (.dict [(.str x, .list ds)])
inductive DqAll (H : Hp) : List V → List PyData → Prop
  | nil : DqAll H [] []
  | cons {v : V} {d : PyData} {vs : List V} {ds : List PyData} : Dq H v d → DqAll H vs ds → DqAll H (v :: vs) (d :: ds)
section
variable {X : Cx} {pins : List (Addr × Obj)} {σ : St} {H : Hp} {s : Shared}
theorem Da.reads {h : Heap} {v : V} {u : Value} {d : PyData} (x : Da v d) (r : RelV v u) : Reads h u d [] := by
  cases x with
  | non => cases r; exact .none
  | bl b => cases r; exact .bool b
  | int i => obtain ⟨t, rfl⟩ := r; exact .int i t
  | str x => obtain ⟨t, rfl⟩ := r; exact .str x t
theorem DaAll.reads {h : Heap} : ∀ {vs : List V} {us : List Value} {ds : List PyData}, DaAll vs ds → Vals vs us → ReadsAll h us ds []
  | _, _, _, .nil, r => by cases r; exact .nil
  | _, _, _, .cons x y, r => by
    cases r with
    | cons ru rs => exact .cons (x.reads ru) (y.reads rs)
theorem lst_reads (I : Inv X pins σ H s) {a : Addr} {xs : List V} {ds : List PyData} (h : H a = some (.lst xs)) (z : DaAll xs ds) : Reads s.heap (.ref a) (.list ds) [a] := by
  obtain ⟨its, rv, ⟨o, n, ho, hc, _, hd⟩, _⟩ := I.list (.inl (.inl h) : SqL X.K H a xs)
  exact .list ho hc hd (by simpa using z.reads rv)
theorem Dq.reads (I : Inv X pins σ H s) {v : V} {u : Value} {d : PyData} (h : Dq H v d) (r : RelV v u) : ∃ as, Reads s.heap u d as ∧ sysModules ∉ as := by
  have nm : ∀ {a : Addr}, (a == sysModules) = false → sysModules ∉ [a] := fun z m => by
    rw [List.mem_singleton] at m
    rw [← m] at z
    simp at z
  cases h with
  | «at» x => exact ⟨[], x.reads r, by simp⟩
  | lst ha hs hz =>
    cases r
    exact ⟨_, lst_reads I ha hz, nm hs⟩
  | tup ha hz =>
    cases r
    obtain ⟨its, rv, ⟨o, ho, hc, n, hd⟩, _⟩ := I.tuple (.inl (.inl ha) : SqT X.K H _ _)
    exact ⟨_, .tuple ho hc hd (by simpa using hz.reads rv), by simp⟩
  | @dic a b x xs ds ha hb hs hz =>
    cases r
    obtain ⟨_, hm, vs, rel, o, es, ep, ho, hx, hd, he⟩ := dk_of I.hok ha
    obtain ⟨hk, hp, _⟩ := he
    cases rel with
    | cons r1 r2 =>
      cases r2
      obtain ⟨e1, e2⟩ := r1
      have el := hp
      generalize hg : es.toList = l at el
      cases el with
      | cons i1 i2 i3 =>
        cases i3
        have i1 := i1
        rw [← e1] at i1
        have i2 := i2.trans (show _ = Value.ref _ from e2)
        rcases keyIs_shape (show keyIs (Sum.inr _) _ = true from i1) with ⟨i, t, h1, h2⟩ | ⟨y, t, h1, h2⟩
        · cases h1
        · cases h1
          obtain ⟨hkey⟩ : Nonempty (es.toList.map (·.key) = [Value.str x t]) := ⟨by rw [hg]; exact congrArg (fun z => [z]) h2⟩
          obtain ⟨hval⟩ : Nonempty (es.toList.map (·.val) = [Value.ref b]) := ⟨by rw [hg]; exact congrArg (fun z => [z]) i2⟩
          refine ⟨_, .dict ho hx.1 hd (by rw [hkey]; exact .cons (.str _ t) .nil) (by rw [hval]; exact .cons (lst_reads I hb hz) .nil), fun m => ?_⟩
          simp only [List.append_nil, List.cons_append, List.nil_append, List.mem_cons, List.mem_nil_iff, or_false] at m
          rcases m with m | m
          · rw [← m] at hm; simp at hm
          · rw [← m] at hs; simp at hs
theorem DqAll.reads (I : Inv X pins σ H s) : ∀ {vs : List V} {us : List Value} {ds : List PyData}, DqAll H vs ds → Vals vs us → ∃ as, ReadsAll s.heap us ds as ∧ sysModules ∉ as
  | _, _, _, .nil, r => by cases r; exact ⟨_, .nil, by simp⟩
  | _, _, _, .cons x y, r => by
    cases r with
    | cons ru rs =>
      obtain ⟨as, h1, h2⟩ := x.reads I ru
      obtain ⟨bs, h3, h4⟩ := y.reads I rs
      exact ⟨_, .cons h1 h3, fun m => (List.mem_append.1 m).elim h2 h4⟩
end
/-- repr of such a value, or of a list of such -/
def rReprQ : List V → Hp → VK → Prop := fun xs H Q => (∃ v d, xs = [v] ∧ Dq H v d ∧ d.showable = true ∧ d.depth ≤ 64 ∧ d.shown.length ≤ sizeLine ∧ Q (.str d.shown) H) ∨
  ∃ (a : Addr) (vs : List V) (ds : List PyData), xs = [.ref a] ∧ H a = some (.lst vs) ∧ (a == sysModules) = false ∧ DqAll H vs ds ∧ PyData.showableAll ds = true ∧ PyData.depth (.list ds) ≤ 64 ∧ (PyData.shown (.list ds)).length ≤ sizeLine ∧ Q (.str (PyData.shown (.list ds))) H
theorem c_reprQ {X : Cx} (hG : X.A.guards = some []) (hu : X.A.units + 128 < cLine) : CallR X (.builtin "repr") rReprQ := by
  intro pins s σ H xs us Q I r h
  rcases h with ⟨v, d, rfl, hd, h1, h3, h4, q⟩ | ⟨a, vs, ds, rfl, ha, hs, hz, h1, h3, h4, q⟩
  · obtain ⟨u, rfl, rx⟩ := vals1 r
    have big : ∀ {a : Addr} {as : List Addr}, Reads s.heap (.ref a) d as → sysModules ∉ as → wpAny (model X.prog X.w) X.A (call (.builtin "repr") [.ref a]) (EP X pins σ Q) X.xe s := fun hr hm =>
      repr_of_reads' hr h1 (fun _ => hm) hG (by omega) (fun _ _ z => z) (fun h' u tk hk => ⟨.str d.shown, H, I.kept hk, ⟨u, rfl⟩, q⟩) h4
    cases hd with
    | «at» x =>
      cases x with
      | non => cases rx; exact PySem.P.repr_of_none ⟨.str _, H, I.tok _, ⟨_, rfl⟩, q⟩
      | bl b => cases rx; exact PySem.P.repr_of_bool ⟨.str _, H, I.tok _, ⟨_, rfl⟩, q⟩
      | int i => obtain ⟨t, rfl⟩ := rx; exact PySem.P.repr_of_int (by simpa only [PyData.showable, decide_eq_true_eq] using h1) ⟨.str _, H, I.tok _, ⟨_, rfl⟩, q⟩
      | str y => obtain ⟨t, rfl⟩ := rx; exact PySem.P.repr_of_str ⟨.str _, H, I.tok _, ⟨_, rfl⟩, q⟩ h4
    | lst ha hs hz =>
      obtain ⟨as, hr, hm⟩ := Dq.reads I (.lst ha hs hz) rx
      cases rx
      exact big hr hm
    | tup ha hz =>
      obtain ⟨as, hr, hm⟩ := Dq.reads I (.tup ha hz) rx
      cases rx
      exact big hr hm
    | dic ha hb hs hz =>
      obtain ⟨as, hr, hm⟩ := Dq.reads I (.dic ha hb hs hz) rx
      cases rx
      exact big hr hm
  · obtain ⟨u, rfl, rx⟩ := vals1 r
    cases (show u = Value.ref a from rx)
    obtain ⟨its, rv, ⟨o, n, ho, hc, _, hd⟩, _⟩ := I.list (.inl (.inl ha) : SqL X.K H a vs)
    obtain ⟨as, hr, hm⟩ := hz.reads I rv
    refine repr_of_reads' (.list ho hc hd (by simpa using hr)) (by simpa only [PyData.showable] using h1) (fun _ m => ?_) hG (by omega) (fun _ _ z => z) (fun h' u tk hk => ⟨.str _, H, I.kept hk, ⟨u, rfl⟩, q⟩) h4
    rcases List.mem_cons.1 m with e | e
    · rw [← e] at hs; simp at hs
    · exact hm e
/-- a text so many times -/
def rRepS : R2 := fun x y H Q => ∃ z n, x = .str z ∧ y = .int n ∧ PySem.MulOk z n ∧ Q (.str (Txt.mul z n)) H
theorem op_repS {X : Cx} : OpR X (binaryOp .Mult) rRepS := by
  intro pins s σ H x y u w Q I r1 r2 h
  obtain ⟨z, n, rfl, rfl, hok, q⟩ := h
  obtain ⟨t, rfl⟩ := r1
  obtain ⟨t2, rfl⟩ := r2
  exact PySem.SB.mul hok fun t' k => ⟨.str _, H, I.tok _, ⟨_, rfl⟩, q⟩
end L2

/-! Pieces that several laws' own defs have. -/
namespace AW
open PySem PySem.Spec L2 LamX
section
variable {c : Cw} {kn : Hp} {n : Nat} {σ : L2.St} {Q : V → Hp → Nat → Prop} {K : PySem.W.Frag}
/-- a value that changes nothing -/
theorem w_pure {t : TE} (v0 : V) (h : W c (t σ) kn n fun v k m => v = v0 ∧ k = kn ∧ m = n) (q : Q v0 kn n) : W c (t σ) kn n Q :=
  h.mono fun v k m ⟨e1, e2, e3⟩ => by subst e1 e2 e3; exact q
theorem w_revL {te : TE} (h : W c (te σ) kn n fun x kn1 n1 => ∃ a xs, x = .ref a ∧ kn1 a = some (.lst xs) ∧ ∀ p, kn1 p = none → Q (.ref p) (upd kn1 p (.lst xs.reverse)) n1) : W c (tRevL K te σ) kn n Q :=
  fun H g Q' q => h H g _ fun x kn1 n1 H1 ⟨a, xs, e, hx, hq⟩ g1 => ⟨a, xs, e, sql (g1.ex _ _ hx), fun p hp => q _ _ _ _ (hq p (g1.free hp)) (g1.new hp)⟩
end
/-- [n for n in range(s) if draw(pen, 2) == 0] -/
theorem w_lcOver {p a : Addr} {ns : List Int} {TT : List (Addr × Str)} {kn : Hp} {n : Nat} {σ : L2.St} {Q : V → Hp → Nat → Prop} {s jp js m : Nat} (h4 : σ[js]? = some (some (.int (s : Int)))) (h1 : ∀ v : V, ((wipe σ [m]).set m (some v))[jp]? = some (some (.ref p))) (h6 : ∀ v : V, ((wipe σ [m]).set m (some v))[m]? = some (some v)) (hw : ∀ v : V, wipe ((wipe σ [m]).set m (some v)) [m] = wipe σ [m])
    (hs : s ≤ 100) (hn : n + s + 1 < 1000000)
    (h : ∀ (D : Addr) (ys : List Nat) (n' : Nat), kn D = none → (∀ y ∈ ys, y < s) → ys.length ≤ s → n' ≤ n + s → Q (.ref D) (upd kn D (.lst (ys.map fun (i : Nat) => V.int i))) n') :
    W (penC p a ns TT) (tLc (iRng1 (tCons (tVar js) tNil)) (gName m) (tTest (tOp rEq (tCall spDraw [] E0 (tCons (tVar jp) (tCons (tC (.int 2)) tNil))) (tC (.int 0)))) (tVar m) [m] σ) kn n Q := by
  refine w_lc (i_rng1 (w_cons (w_var h4 (w_nil ⟨_, rfl, by omega, by omega, ?_⟩))))
  rw [Int.toNat_natCast]
  refine ⟨_, (fun _ => True), fun D i acc k m => k = upd kn D (.lst acc) ∧ kn D = none ∧ m ≤ n + i ∧ i ≤ s ∧ ∃ ys : List Nat, acc = (ys.map fun (i : Nat) => V.int i) ∧ ys.length ≤ i ∧ ∀ y ∈ ys, y < s, gives_rng, by rw [List.length_map, List.length_range]; omega, fun D hD => ⟨rfl, hD, by omega, by omega, [], rfl, Nat.le_refl 0, fun y hy => (by cases hy)⟩, ?_, ?_, ?_⟩
  · rintro D i acc k m ⟨rfl, hD, _, _, ys, rfl, hl, _⟩
    exact ⟨trivial, upd_same, by rw [List.length_map]; exact hl⟩
  · rintro D i acc x k m hx ⟨rfl, hD, hm, _, ys, rfl, hl, hy⟩
    have hi : i < s := by
      have := (List.getElem?_eq_some_iff.1 hx).1
      rw [List.length_map, List.length_range] at this
      exact this
    obtain rfl : x = V.int (i : Int) := by
      rw [List.getElem?_map, List.getElem?_range hi] at hx
      rw [← Option.some.inj hx]
      exact congrArg V.int (show (0 : Int) + ((i : Nat) : Int) = ((i : Nat) : Int) by omega)
    refine g_name ⟨hw _, w_test (w_op (w_draw (w_cons (w_var (h1 _) (w_cons (w_c (w_nil ⟨2, rfl, by omega, by decide, by decide, fun k2 k20 k21 => w_c (r_eq rfl ⟨_, rfl, fun _ => ?_, fun _ => ?_⟩)⟩)))))))⟩
    · refine w_var (h6 _) ⟨upd_same, ?_, hD, by omega, by omega, ys ++ [i], by rw [List.map_append]; rfl, by rw [List.length_append]; show _ + 1 ≤ _; omega, fun y hy2 => ?_⟩
      · funext b
        by_cases hb : b = D
        · rw [hb, upd_same, upd_same]
        · rw [upd_ne hb, upd_ne hb, upd_ne hb]
      · rcases List.mem_append.1 hy2 with z | z
        · exact hy y z
        · rw [List.mem_singleton.1 z]
          exact hi
    · exact ⟨rfl, hD, by omega, by omega, ys, rfl, by omega, hy⟩
  · rintro D acc k m ⟨rfl, hD, hm, hs2, ys, rfl, hl, hy⟩
    rw [List.length_map, List.length_range] at hm hl
    exact h D ys m hD hy (by omega) (by omega)
section
variable {c : Cw} {kn : Hp} {n : Nat} {σ : L2.St} {Q : V → Hp → Nat → Prop}
/-- a comprehension without a test that changes nothing, its items one by one -/
theorem w_lcV {wi : TI} {gt : TG} {te : TE} {vs : List Nat}
    (h : WI c (wi σ) kn n fun J kn1 n1 => ∃ (xs : List V) (ka : Hp → Prop) (ys : List V), Gives J xs ka ∧ xs.length ≤ 100000 ∧ ys.length = xs.length ∧ (∀ k, Ext kn1 k → ka k) ∧
      (∀ (i : Nat) (x y : V), xs[i]? = some x → ys[i]? = some y → ∀ k, Ext kn1 k → WG c gt x (wipe σ vs) k n1 fun σ2 k2 n2 => k2 = k ∧ n2 = n1 ∧ wipe σ2 vs = wipe σ vs ∧ W c (te σ2) k n1 fun v k4 n4 => v = y ∧ k4 = k ∧ n4 = n1) ∧
      ∀ D, kn1 D = none → Q (.ref D) (upd kn1 D (.lst ys)) n1) : W c (tLc wi gt tYes te vs σ) kn n Q := by
  refine w_lc (fun H g R' q => h H g R' fun J kn1 n1 H1 hJ g1 => q J kn1 n1 H1 ?_ g1)
  obtain ⟨xs, ka, ys, hG, hl, hy, hk, hs, hd⟩ := hJ
  have e1 : ∀ {k : Hp} {D : Addr} {o : HO}, k D = none → Ext k (upd k D o) := fun h x u e => know h e
  refine ⟨xs, ka, fun D i acc k m => m = n1 ∧ kn1 D = none ∧ acc = ys.take i ∧ k = upd kn1 D (.lst acc), hG, hl, fun D hD => ⟨rfl, hD, by simp, rfl⟩, ?_, ?_, ?_⟩
  · rintro D i acc k m ⟨rfl, hD, rfl, rfl⟩
    exact ⟨hk _ (e1 hD), upd_same, by rw [List.length_take]; exact Nat.min_le_left _ _⟩
  · rintro D i acc x k m hx ⟨rfl, hD, rfl, rfl⟩
    have hi : i < ys.length := by rw [hy]; exact (List.getElem?_eq_some_iff.1 hx).1
    intro H g N' f'
    refine hs i x _ hx (List.getElem?_eq_getElem hi) _ (e1 hD) H g N' fun σ2 k2 n2 H2 hq g2 => f' σ2 k2 n2 H2 ?_ g2
    obtain ⟨rfl, rfl, hw, hq⟩ := hq
    refine ⟨hw, w_yesT ⟨fun _ => hq.mono fun y k4 n4 hy2 => ?_, fun z => nomatch z⟩⟩
    obtain ⟨rfl, rfl, rfl⟩ := hy2
    refine ⟨upd_same, rfl, hD, ?_, ?_⟩
    · rw [List.take_add_one, List.getElem?_eq_getElem hi]; rfl
    · funext z
      by_cases hz : z = D
      · rw [hz, upd_same, upd_same]
      · rw [upd_ne hz, upd_ne hz, upd_ne hz]
  · rintro D acc k m ⟨rfl, hD, rfl, rfl⟩
    rw [← hy, List.take_length]
    exact hd D hD
/-- a comprehension without a test whose items are made anew -/
theorem w_lcN {wi : TI} {gt : TG} {te : TE} {vs : List Nat} (R : Nat → V → Hp → Prop) (hE : ∀ i v k k', Ext k k' → R i v k → R i v k') (hP : ∀ i v k D zs o, k D = some (.lst zs) → R i v k → R i v (upd k D o))
    (h : WI c (wi σ) kn n fun J kn1 n1 => ∃ (xs : List V) (ka : Hp → Prop), Gives J xs ka ∧ xs.length ≤ 100000 ∧ (∀ k, Ext kn1 k → ka k) ∧
      (∀ (i : Nat) (x : V), xs[i]? = some x → ∀ k, Ext kn1 k → WG c gt x (wipe σ vs) k n1 fun σ2 k2 n2 => k2 = k ∧ n2 = n1 ∧ wipe σ2 vs = wipe σ vs ∧ W c (te σ2) k n1 fun v k4 n4 => n4 = n1 ∧ Ext k k4 ∧ R i v k4) ∧
      ∀ D k (ys : List V), Ext kn1 k → kn1 D = none → k D = some (.lst ys) → ys.length = xs.length → (∀ (i : Nat) (y : V), ys[i]? = some y → R i y k) → Q (.ref D) k n1) : W c (tLc wi gt tYes te vs σ) kn n Q := by
  refine w_lc (fun H g R' q => h H g R' fun J kn1 n1 H1 hJ g1 => q J kn1 n1 H1 ?_ g1)
  obtain ⟨xs, ka, hG, hl, hk, hs, hd⟩ := hJ
  have e1 : ∀ {k : Hp} {D : Addr} {o : HO}, k D = none → Ext k (upd k D o) := fun h x u e => know h e
  refine ⟨xs, ka, fun D i acc k m => m = n1 ∧ kn1 D = none ∧ Ext kn1 k ∧ k D = some (.lst acc) ∧ acc.length = i ∧ ∀ (j : Nat) (y : V), acc[j]? = some y → R j y k, hG, hl, fun D hD => ⟨rfl, hD, e1 hD, upd_same, rfl, fun j y hj => (by cases hj)⟩, ?_, ?_, ?_⟩
  · rintro D i acc k m ⟨rfl, hD, ek, kD, hl, hr⟩
    exact ⟨hk _ ek, kD, Nat.le_of_eq hl⟩
  · rintro D i acc x k m hx ⟨rfl, hD, ek, kD, hl, hr⟩
    intro H g N' f'
    refine hs i x hx _ ek H g N' fun σ2 k2 n2 H2 hq g2 => f' σ2 k2 n2 H2 ?_ g2
    obtain ⟨rfl, rfl, hw, hq⟩ := hq
    refine ⟨hw, w_yesT ⟨fun _ => hq.mono fun y k4 n4 hy2 => ?_, fun z => nomatch z⟩⟩
    obtain ⟨rfl, e4, hy⟩ := hy2
    have kD4 := e4 _ _ kD
    refine ⟨kD4, rfl, hD, fun z o hz => ?_, upd_same, by rw [List.length_append, hl]; rfl, fun j y' hj => ?_⟩
    · rw [upd_ne (fun e => by rw [e, hD] at hz; cases hz)]
      exact e4 _ _ (ek _ _ hz)
    · refine hP _ _ _ _ _ _ kD4 ?_
      rcases Nat.lt_or_ge j acc.length with z | z
      · rw [List.getElem?_append_left z] at hj
        exact hE _ _ _ _ e4 (hr j y' hj)
      · rw [List.getElem?_append_right z] at hj
        have : j - acc.length = 0 := by
          rcases Nat.eq_zero_or_pos (j - acc.length) with e | e
          · exact e
          · rw [List.getElem?_eq_none (by show 1 ≤ _; omega)] at hj; cases hj
        rw [this] at hj
        cases hj
        have : j = i := by omega
        rw [this]
        exact hy
  · rintro D acc k m ⟨rfl, hD, ek, kD, hl, hr⟩
    exact hd D k acc ek hD kD hl hr
end
end AW

/-! Own errors as values, repr of data with dicts: the abstract layer. -/
namespace AW
open PySem PySem.Spec PyProof.Rows L2
/-- an own error with its fields -/
structure ErrAt (k : Hp) (a C : Addr) (fs : List (Str × V)) : Prop where
  at_ : ∃ d, k a = some (exo a C (some d)) ∧ k d = some (exd d fs)
theorem ErrAt.ext {k k' : Hp} {a C : Addr} {fs : List (Str × V)} (e : Ext k k') (h : ErrAt k a C fs) : ErrAt k' a C fs := by
  obtain ⟨d, h1, h2⟩ := h
  exact ⟨d, e _ _ h1, e _ _ h2⟩
theorem x1_top {H : Hp} {a d : Addr} {o1 o2 o3 : HO} : upd (upd (upd H a o1) d o2) a o3 = upd (upd H d o2) a o3 := by
  funext x
  by_cases h1 : x = a
  · rw [h1, upd_same, upd_same]
  · rw [upd_ne h1, upd_ne h1]
    by_cases h2 : x = d
    · rw [h2, upd_same, upd_same]
    · rw [upd_ne h2, upd_ne h2, upd_ne h1]
theorem x2_top {H : Hp} {a d : Addr} {o1 o2 o3 o4 : HO} (hd : d ≠ a) : upd (upd (upd (upd H a o1) d o2) a o3) d o4 = upd (upd H d o4) a o3 := by
  funext x
  by_cases h1 : x = d
  · rw [h1, upd_same, upd_ne hd, upd_same]
  · rw [upd_ne h1]
    by_cases h2 : x = a
    · rw [h2, upd_same, upd_same]
    · rw [upd_ne h2, upd_ne h1, upd_ne h2, upd_ne h2, upd_ne h1]
theorem dq_ext {H H' : Hp} (e : Ext H H') {v : V} {d : PyData} (h : Dq H v d) : Dq H' v d := by
  cases h with
  | «at» x => exact .at x
  | lst h1 h2 h3 => exact .lst (e _ _ h1) h2 h3
  | tup h1 h2 => exact .tup (e _ _ h1) h2
  | dic h1 h2 h3 h4 => exact .dic (e _ _ h1) (e _ _ h2) h3 h4
theorem dqa_ext {H H' : Hp} (e : Ext H H') : ∀ {vs : List V} {ds : List PyData}, DqAll H vs ds → DqAll H' vs ds
  | _, _, .nil => .nil
  | _, _, .cons x y => .cons (dq_ext e x) (dqa_ext e y)
section
variable {K : PySem.W.Frag} {c : Cw} {kn : Hp} {n : Nat} {σ : L2.St} {Q : V → Hp → Nat → Prop} {C : Addr} {f g : Str} {ta tk : TA}
theorem w_lstB (h : W c (ta σ) kn n fun xs kn1 n1 => xs.length ≤ 1000 ∧ ∀ q, kn1 q = none → (q == sysModules) = false → Q (.ref q) (upd kn1 q (.lst xs)) n1) : W c (tLstB ta σ) kn n Q :=
  fun H gd Q' q => h H gd _ fun xs kn1 n1 H1 h1 g1 => ⟨Nat.le_trans h1.1 (by rw [sizeLine_eq]; decide), fun p hp hs => q _ _ _ _ (h1.2 p (g1.free hp) hs) (g1.new hp)⟩
theorem mk1_end {H1 kn1 : Hp} {n1 : Nat} {a dx : Addr} {y : V} {R : Hp → Prop} (g1 : Good c kn1 n1 H1) (ha : H1 a = none) (hd : H1 dx = none) (hda : dx ≠ a)
    (h : ∀ k', Ext kn1 k' → kn1 a = none → ErrAt k' a C [(f, y)] → ∀ H', Good c k' n1 H' → R H') : R (upd (upd (upd H1 a (exo a C none)) dx (exd dx [(f, y)])) a (exo a C (some dx))) := by
  rw [x1_top]
  have ha2 : upd H1 dx (exd dx [(f, y)]) a = none := by rw [upd_ne (Ne.symm hda)]; exact ha
  have g2 := g1.new (o := exd dx [(f, y)]) hd
  have g3 := g2.new (o := exo a C (some dx)) ha2
  have ka2 := g2.free ha2
  refine h _ (fun x o hx => ?_) (g1.free ha) ⟨dx, upd_same, by rw [upd_ne hda, upd_same]⟩ _ g3
  rw [upd_ne (fun z => by rw [z, g1.free ha] at hx; cases hx), upd_ne (fun z => by rw [z, g1.free hd] at hx; cases hx)]
  exact hx
/-- C(y) -/
theorem w_mkV1 (oc : OexC K C) (hf : PySem.W.findIn K (.ref C) f = some none) (h : W c (ta σ) kn n fun vs kn1 n1 => ∃ y, vs = [y] ∧ ∀ a k', Ext kn1 k' → kn1 a = none → ErrAt k' a C [(f, y)] → Q (.ref a) k' n1) : W c (tMkV C (spX1 K f) [] ta σ) kn n Q :=
  fun H gd Q' q => h H gd _ fun vs kn1 n1 H1 ⟨y, e, h1⟩ g1 => by
    subst e
    refine ⟨Nat.le_add_left 1 999, fun a ha => ⟨a, C, y, rfl, oc, hf, upd_same, fun dx hd hda => ⟨rfl, ?_⟩⟩⟩
    rw [upd_ne hda] at hd
    exact mk1_end (R := fun H' => Q' (.ref a) H') g1 ha hd hda fun k' e ka at' H' g' => q _ _ _ _ (h1 a k' e ka at') g'
/-- C(y, z) -/
theorem w_mkV2 (oc : OexC K C) (hf : PySem.W.findIn K (.ref C) f = some none) (hg : PySem.W.findIn K (.ref C) g = some none) (h : W c (ta σ) kn n fun vs kn1 n1 => ∃ y z, vs = [y, z] ∧ ∀ a k', Ext kn1 k' → kn1 a = none → ErrAt k' a C [(g, z), (f, y)] → Q (.ref a) k' n1) : W c (tMkV C (spX2 K f g) [] ta σ) kn n Q :=
  fun H gd Q' q => h H gd _ fun vs kn1 n1 H1 ⟨y, z, e, h1⟩ g1 => by
    subst e
    refine ⟨Nat.le_add_left 2 998, fun a ha => ⟨a, C, y, z, rfl, oc, hf, hg, upd_same, fun dx hd hda => ⟨rfl, ?_⟩⟩⟩
    rw [upd_ne hda] at hd
    rw [x2_top hda]
    have ha2 : upd H1 dx (exd dx [(g, z), (f, y)]) a = none := by rw [upd_ne (Ne.symm hda)]; exact ha
    have g2 := g1.new (o := exd dx [(g, z), (f, y)]) hd
    refine q _ _ _ _ (h1 a _ (fun x o hx => ?_) (g1.free ha) ⟨dx, upd_same, by rw [upd_ne hda, upd_same]⟩) (g2.new (o := exo a C (some dx)) ha2)
    rw [upd_ne (fun z => by rw [z, g1.free ha] at hx; cases hx), upd_ne (fun z => by rw [z, g1.free hd] at hx; cases hx)]
    exact hx
/-- C(f = y) -/
theorem w_mkK1 {gV : List V → List V → List V} (hv : ∀ (x y : V), gV [x] [y] = [x, y]) (oc : OexC K C) (hf : PySem.W.findIn K (.ref C) f = some none) (h : W c (tk σ) kn n fun vs kn1 n1 => ∃ y, vs = [y] ∧ ∀ a k', Ext kn1 k' → kn1 a = none → ErrAt k' a C [(f, y)] → Q (.ref a) k' n1) : W c (tMkK C 1 (spX1 K f) gV tk σ) kn n Q :=
  fun H gd Q' q => h H gd _ fun vs kn1 n1 H1 ⟨y, e, h1⟩ g1 => by
    subst e
    refine ⟨rfl, fun a ha => ⟨a, C, y, hv _ _, oc, hf, upd_same, fun dx hd hda => ⟨rfl, ?_⟩⟩⟩
    rw [upd_ne hda] at hd
    exact mk1_end (R := fun H' => Q' (.ref a) H') g1 ha hd hda fun k' e ka at' H' g' => q _ _ _ _ (h1 a k' e ka at') g'
/-- C(g = z, f = y), the other way about -/
theorem w_mkK2 {gV : List V → List V → List V} (hv : ∀ (x y z : V), gV [x] [z, y] = [x, y, z]) (oc : OexC K C) (hf : PySem.W.findIn K (.ref C) f = some none) (hg : PySem.W.findIn K (.ref C) g = some none) (h : W c (tk σ) kn n fun vs kn1 n1 => ∃ y z, vs = [z, y] ∧ ∀ a k', Ext kn1 k' → kn1 a = none → ErrAt k' a C [(g, z), (f, y)] → Q (.ref a) k' n1) : W c (tMkK C 2 (spX2 K f g) gV tk σ) kn n Q :=
  fun H gd Q' q => h H gd _ fun vs kn1 n1 H1 ⟨y, z, e, h1⟩ g1 => by
    subst e
    refine ⟨rfl, fun a ha => ⟨a, C, y, z, hv _ _ _, oc, hf, hg, upd_same, fun dx hd hda => ⟨rfl, ?_⟩⟩⟩
    rw [upd_ne hda] at hd
    rw [x2_top hda]
    have ha2 : upd H1 dx (exd dx [(g, z), (f, y)]) a = none := by rw [upd_ne (Ne.symm hda)]; exact ha
    have g2 := g1.new (o := exd dx [(g, z), (f, y)]) hd
    refine q _ _ _ _ (h1 a _ (fun x o hx => ?_) (g1.free ha) ⟨dx, upd_same, by rw [upd_ne hda, upd_same]⟩) (g2.new (o := exo a C (some dx)) ha2)
    rw [upd_ne (fun z => by rw [z, g1.free ha] at hx; cases hx), upd_ne (fun z => by rw [z, g1.free hd] at hx; cases hx)]
    exact hx
/-- C() -/
theorem w_mk0 (h : ∀ a, kn a = none → Q (.ref a) (upd kn a (exo a C none)) n) : W c (tMk0 C σ) kn n Q :=
  fun H gd Q' q a ha => q _ _ _ _ (h a (gd.free ha)) (gd.new ha)
/-- e.f -/
theorem w_xv {te : TE} (h : W c (te σ) kn n fun x kn1 n1 => ∃ a D fs v, x = .ref a ∧ ErrAt kn1 a D fs ∧ XfC K D ∧ PySem.W.findIn K (.ref D) f = some none ∧ fs.lookup f = some v ∧ Q v kn1 n1) : W c (tXv K te f σ) kn n Q :=
  fun H gd Q' q => h H gd _ fun x kn1 n1 H1 ⟨a, D, fs, v, e, ⟨d, h1, h2⟩, xf, hn, l, hq⟩ g1 => ⟨a, D, d, fs, v, e, g1.ex _ _ h1, g1.ex _ _ h2, xf, hn, l, q _ _ _ _ hq g1⟩
/-- an own error, with or without fields -/
def IsErr (k : Hp) (a C : Addr) : Prop := ∃ d fs, k a = some (exo a C d) ∧ ∀ dd, d = some dd → k dd = some (exd dd fs)
theorem IsErr.ext {k k' : Hp} {a C : Addr} (e : Ext k k') (h : IsErr k a C) : IsErr k' a C := by
  obtain ⟨d, fs, h1, h2⟩ := h
  exact ⟨d, fs, e _ _ h1, fun dd z => e _ _ (h2 dd z)⟩
theorem ErrAt.is {k : Hp} {a C : Addr} {fs : List (Str × V)} (h : ErrAt k a C fs) : IsErr k a C := by
  obtain ⟨d, h1, h2⟩ := h
  exact ⟨some d, fs, h1, fun dd z => by cases z; exact h2⟩
theorem r_isV {a D : Addr} {cc : V} {cv : Value} {b : Bool} (h : IsErr kn a D) (hc : ClsV cc cv) (xc : ExcC K D) (hk : PySem.W.kitOne K (.ref D) cv = some b) (q : Q (.bl b) kn n) : W c (rIsV K [.ref a, cc]) kn n Q :=
  fun H gd Q' k => by
    obtain ⟨d, fs, h1, h2⟩ := h
    exact ⟨a, D, d, fs, cc, cv, b, rfl, hc, gd.ex _ _ h1, fun dd z => gd.ex _ _ (h2 dd z), xc, hk, k _ kn n H q gd⟩
theorem r_reprQ {v : V} {d : PyData} (hd : Dq kn v d) (h1 : d.showable = true) (h3 : d.depth ≤ 64) (h4 : d.shown.length ≤ sizeLine) (q : Q (.str d.shown) kn n) : W c (rReprQ [v]) kn n Q :=
  fun H gd Q' k => .inl ⟨v, d, rfl, dq_ext gd.ex hd, h1, h3, h4, k _ kn n H q gd⟩
theorem r_reprQL {a : Addr} {vs : List V} {ds : List PyData} (ha : kn a = some (.lst vs)) (hs : (a == sysModules) = false) (hz : DqAll kn vs ds) (h1 : PyData.showableAll ds = true) (h3 : PyData.depth (.list ds) ≤ 64) (h4 : (PyData.shown (.list ds)).length ≤ sizeLine) (q : Q (.str (PyData.shown (.list ds))) kn n) : W c (rReprQ [.ref a]) kn n Q :=
  fun H gd Q' k => .inr ⟨a, vs, ds, rfl, gd.ex _ _ ha, hs, dqa_ext gd.ex hz, h1, h3, h4, k _ kn n H q gd⟩
end
/-- which classes are which -/
def kitTab (K : PySem.W.Frag) (cs : List Addr) : List (List (Option Bool)) := cs.map fun t => cs.map fun c => PySem.W.kitOne K (.ref t) (.ref c)
theorem kitTab_at {K : PySem.W.Frag} {cs : List Addr} {T : List (List Bool)} (h : kitTab K cs = T.map (·.map some)) {i j : Nat} {a b : Addr} (ha : cs[i]? = some a) (hb : cs[j]? = some b) {x : Bool} (hx : (T[i]?).bind (·[j]?) = some x) : PySem.W.kitOne K (.ref a) (.ref b) = some x := by
  have e := congrArg (fun z => (z[i]?).bind (·[j]?)) h
  unfold kitTab at e
  simp only [List.getElem?_map, ha, Option.map_some, Option.bind_some, hb] at e
  cases hT : T[i]? with
  | none => rw [hT] at hx; cases hx
  | some r =>
    rw [hT] at hx e
    simp only [Option.map_some, Option.bind_some, List.getElem?_map] at hx e
    rw [hx] at e
    exact Option.some.inj (by simpa using e)
theorem r_repS {c : Cw} {kn : Hp} {n : Nat} {Q : V → Hp → Nat → Prop} {z : Str} {i : Int} (h : PySem.MulOk z i) (q : Q (.str (Txt.mul z i)) kn n) : W c (rRepS (.str z) (.int i)) kn n Q := fun H g _ k => ⟨z, i, rfl, rfl, h, k _ kn n H q g⟩
end AW
namespace AW
def kitR : List (List Bool) := [[true, false, false, false, false, false, false, false, false, false, false, false, false, false, false, false, false, false, false, false, false, false, false, false, false, false, false, false], [true, true, false, false, false, false, false, false, false, false, false, false, false, false, false, false, false, false, false, false, false, false, false, false, false, false, false, false], [true, false, true, false, false, false, false, false, false, false, false, false, false, false, false, false, false, false, false, false, false, false, false, false, false, false, false, false], [true, false, false, true, false, false, false, false, false, false, false, false, false, false, false, false, false, false, false, false, false, false, false, false, false, false, false, false], [true, true, false, false, true, false, false, false, false, false, false, false, false, false, false, false, false, false, false, false, false, false, false, false, false, false, false, false], [true, true, false, false, false, true, false, false, false, false, false, false, false, false, false, false, false, false, false, false, false, false, false, false, false, false, false, false], [true, true, false, false, false, false, true, false, false, false, false, false, false, false, false, false, false, false, false, false, false, false, false, false, false, false, false, false], [true, true, false, false, false, false, false, true, false, false, false, false, false, false, false, false, false, false, false, false, false, false, false, false, false, false, false, false], [true, true, false, false, false, false, false, false, true, false, false, false, false, false, false, false, false, false, false, false, false, false, false, false, false, false, false, false], [true, true, false, false, false, false, false, false, false, true, false, false, false, false, false, false, false, false, false, false, false, false, false, false, false, false, false, false], [true, true, false, false, false, false, false, false, false, false, true, false, false, false, false, false, false, false, false, false, false, false, false, false, false, false, false, false], [true, true, false, false, false, false, false, false, false, false, false, true, false, false, false, false, false, false, false, false, false, false, false, false, false, false, false, false], [true, true, false, false, false, false, false, false, false, false, false, false, true, false, false, false, false, false, false, false, false, false, false, false, false, false, false, false], [true, true, false, false, false, false, false, false, false, false, false, false, false, true, false, false, false, false, false, false, false, false, false, false, false, false, false, false], [true, true, false, false, false, false, false, false, false, false, false, false, false, false, true, false, false, false, false, false, false, false, false, false, false, false, false, false], [true, true, false, false, false, false, false, false, false, false, false, false, false, false, false, true, false, false, false, false, false, false, false, false, false, false, false, false], [true, true, false, false, false, false, false, false, false, false, false, false, false, false, false, false, true, false, false, false, false, false, false, false, false, false, false, false], [true, true, false, false, false, false, false, false, false, false, false, false, false, false, false, false, false, true, false, false, false, false, false, false, false, false, false, false], [true, false, true, false, false, false, false, false, false, false, false, false, false, false, false, false, false, false, true, false, false, false, false, false, false, false, false, false], [true, false, true, false, false, false, false, false, false, false, false, false, false, false, false, false, false, false, false, true, false, false, false, false, false, false, false, false], [true, false, true, false, false, false, false, false, false, false, false, false, false, false, false, false, false, false, false, false, true, false, false, false, false, false, false, false], [true, false, true, false, false, false, false, false, false, false, false, false, false, false, false, false, false, false, false, false, false, true, false, false, false, false, false, false], [true, false, true, false, false, false, false, false, false, false, false, false, false, false, false, false, false, false, false, false, false, false, true, false, false, false, false, false], [true, false, true, false, false, false, false, false, false, false, false, false, false, false, false, false, false, false, false, false, false, false, false, true, false, false, false, false], [true, false, true, false, false, false, false, false, false, false, false, false, false, false, false, false, false, false, false, false, false, false, false, false, true, false, false, false], [true, false, false, true, false, false, false, false, false, false, false, false, false, false, false, false, false, false, false, false, false, false, false, false, false, true, false, false], [true, false, false, true, false, false, false, false, false, false, false, false, false, false, false, false, false, false, false, false, false, false, false, false, false, false, true, false], [true, false, false, true, false, false, false, false, false, false, false, false, false, false, false, false, false, false, false, false, false, false, false, false, false, false, false, true]]
end AW

/-! Marks that come round: the least period, the least start. Pure. -/
namespace Ln
def ix (t : List Bool) (i : Nat) : Bool := t.getD i false
theorem ix_lt {t : List Bool} {i : Nat} (h : i < t.length) : ix t i = t[i] := by
  unfold ix
  rw [List.getD_eq_getElem?_getD, List.getElem?_eq_getElem h]; rfl
theorem ext_ix {a b : List Bool} (hl : a.length = b.length) (h : ∀ i, i < a.length → ix a i = ix b i) : a = b := by
  apply List.ext_getElem hl
  intro i h1 h2
  rw [← ix_lt h1, ← ix_lt h2]
  exact h i h1
def turned (t : List Bool) (k : Nat) : List Bool := t.drop k ++ t.take k
theorem turned_len (t : List Bool) (k : Nat) : (turned t k).length = t.length := by
  unfold turned
  rw [List.length_append, List.length_drop, List.length_take]
  omega
theorem ix_turned {t : List Bool} {k i : Nat} (hk : k ≤ t.length) (hi : i < t.length) : ix (turned t k) i = ix t (if i + k < t.length then i + k else i + k - t.length) := by
  unfold turned ix
  rw [List.getD_eq_getElem?_getD, List.getD_eq_getElem?_getD]
  by_cases h : i + k < t.length
  · rw [if_pos h, List.getElem?_append_left (by rw [List.length_drop]; omega), List.getElem?_drop, Nat.add_comm k i]
  · rw [if_neg h, List.getElem?_append_right (by rw [List.length_drop]; omega), List.length_drop, List.getElem?_take, if_pos (by omega)]
    congr 2
    omega
/-- what comes round by k, a divisor -/
def Per (t : List Bool) (k : Nat) : Prop := ∀ i, i < t.length → ix t i = ix t (i % k)
theorem per_of_turned {t : List Bool} {k : Nat} (hk : 0 < k) (hkl : k ≤ t.length) (h : turned t k = t) : Per t k := by
  intro i
  induction i using Nat.strongRecOn with
  | _ i ih =>
    intro hi
    by_cases hik : i < k
    · rw [Nat.mod_eq_of_lt hik]
    · have e : ix (turned t k) (i - k) = ix t (i - k) := by rw [h]
      rw [ix_turned hkl (by omega), if_pos (by omega), Nat.sub_add_cancel (by omega)] at e
      rw [e, ih (i - k) (by omega) (by omega)]
      congr 1
      rw [Nat.mod_eq_sub_mod (by omega : i ≥ k)]
theorem turned_of_per {t : List Bool} {k : Nat} (hk : 0 < k) (hkl : k ≤ t.length) (hd : t.length % k = 0) (h : Per t k) : turned t k = t := by
  apply ext_ix (turned_len t k)
  rw [turned_len]
  intro i hi
  rw [ix_turned hkl hi]
  by_cases h2 : i + k < t.length
  · rw [if_pos h2, h _ h2, h _ hi, Nat.add_mod_right]
  · rw [if_neg h2, h _ (by omega), h _ hi]
    congr 1
    obtain ⟨m, hm⟩ := Nat.dvd_of_mod_eq_zero hd
    have h3 : t.length ≤ i + k := by omega
    have : i + k - t.length = i + k - k * m := by rw [hm]
    rw [this]
    rw [Nat.sub_mul_mod (by omega), Nat.add_mod_right]
/-- the least period -/
def isP (t : List Bool) (k : Nat) : Bool := decide (1 ≤ k) && decide (t.length % k = 0) && decide (turned t k = t)
def leastP (t : List Bool) : Nat := ((List.range t.length).find? (isP t)).getD t.length
theorem leastP_cases (t : List Bool) : (leastP t = t.length ∧ ∀ k, k < t.length → isP t k = false) ∨ (leastP t < t.length ∧ isP t (leastP t) = true ∧ ∀ k, k < leastP t → isP t k = false) := by
  unfold leastP
  cases h : (List.range t.length).find? (isP t) with
  | none =>
    left
    refine ⟨rfl, fun k hk => ?_⟩
    have := List.find?_eq_none.1 h k (List.mem_range.2 hk)
    simpa using this
  | some k =>
    right
    rw [List.find?_range_eq_some] at h
    refine ⟨List.mem_range.1 h.2.1, h.1, fun j hj => ?_⟩
    have := h.2.2 j hj
    simpa using this
theorem leastP_le (t : List Bool) : leastP t ≤ t.length := by
  rcases leastP_cases t with h | h <;> omega
theorem leastP_pos {t : List Bool} (h : 0 < t.length) : 0 < leastP t := by
  rcases leastP_cases t with ⟨e, _⟩ | ⟨_, p, _⟩
  · omega
  · unfold isP at p
    simp at p
    omega
theorem leastP_per {t : List Bool} (h : 0 < t.length) : t.length % leastP t = 0 ∧ Per t (leastP t) := by
  rcases leastP_cases t with ⟨e, _⟩ | ⟨l, p, _⟩
  · rw [e]
    exact ⟨Nat.mod_self _, fun i hi => by rw [Nat.mod_eq_of_lt hi]⟩
  · unfold isP at p
    simp at p
    exact ⟨p.1.2, per_of_turned (by omega) (by omega) p.2⟩
theorem leastP_min {t : List Bool} {k : Nat} (h1 : 1 ≤ k) (h2 : k < leastP t) (h3 : t.length % k = 0) (h : Per t k) : False := by
  have hk : isP t k = true := by
    unfold isP
    have := leastP_le t
    rw [turned_of_per (by omega) (by omega) h3 h]
    simp [h1, h3]
  rcases leastP_cases t with ⟨e, f⟩ | ⟨l, p, f⟩
  · rw [f k (by omega)] at hk; cases hk
  · rw [f k h2] at hk; cases hk
theorem ix_take {t : List Bool} {n i : Nat} (h : i < n) : ix (t.take n) i = ix t i := by
  unfold ix
  rw [List.getD_eq_getElem?_getD, List.getD_eq_getElem?_getD, List.getElem?_take, if_pos h]
/-- the first round comes round by no less -/
theorem leastP_take {t : List Bool} (h : 0 < t.length) : leastP (t.take (leastP t)) = leastP t := by
  have hle := leastP_le t
  have hp := leastP_pos h
  have hl : (t.take (leastP t)).length = leastP t := by rw [List.length_take]; omega
  obtain ⟨d, p⟩ := leastP_per h
  rcases leastP_cases (t.take (leastP t)) with ⟨e, _⟩ | ⟨l, q, _⟩
  · rw [e, hl]
  · exfalso
    rw [hl] at l
    have p2 := leastP_per (t := t.take (leastP t)) (by omega)
    have q1 := leastP_pos (t := t.take (leastP t)) (by omega)
    generalize leastP (t.take (leastP t)) = k at l q p2 q1
    rw [hl] at p2
    refine leastP_min (t := t) (k := k) q1 l ?_ ?_
    · obtain ⟨a, ha⟩ := Nat.dvd_of_mod_eq_zero d
      obtain ⟨b, hb⟩ := Nat.dvd_of_mod_eq_zero p2.1
      have hd : k ∣ t.length := ⟨b * a, by rw [ha]; generalize leastP t = L at hb; subst hb; rw [Nat.mul_assoc]⟩
      exact Nat.mod_eq_zero_of_dvd hd
    · intro i hi
      have hm : i % leastP t < leastP t := Nat.mod_lt _ hp
      have e1 : ix t i = ix t (i % leastP t) := p i hi
      have e2 : ix t (i % leastP t) = ix (t.take (leastP t)) (i % leastP t) := (ix_take hm).symm
      have e3 := p2.2 (i % leastP t) (by rw [hl]; exact hm)
      have e4 : i % leastP t % k = i % k := Nat.mod_mod_of_dvd i (Nat.dvd_of_mod_eq_zero p2.1)
      have e5 : ix (t.take (leastP t)) (i % k) = ix t (i % k) := ix_take (Nat.lt_trans (Nat.mod_lt _ q1) l)
      rw [e1, e2, e3, e4, e5]
/-- numbers that are marked -/
def idx (t : List Bool) : List Nat := (List.range t.length).filter (ix t)
def maskOf (n : Nat) (xs : List Nat) : List Bool := (List.range n).map fun i => decide (i ∈ xs)
theorem mask_len (n : Nat) (xs : List Nat) : (maskOf n xs).length = n := by simp [maskOf]
theorem ix_mask {n i : Nat} {xs : List Nat} (h : i < n) : ix (maskOf n xs) i = decide (i ∈ xs) := by
  unfold ix maskOf
  rw [List.getD_eq_getElem?_getD, List.getElem?_map, List.getElem?_range h]
  rfl
theorem mem_idx {t : List Bool} {i : Nat} : i ∈ idx t ↔ i < t.length ∧ ix t i = true := by
  unfold idx
  rw [List.mem_filter, List.mem_range]
theorem mask_idx (t : List Bool) : maskOf t.length (idx t) = t := by
  apply ext_ix (mask_len _ _)
  rw [mask_len]
  intro i hi
  rw [ix_mask hi]
  cases h : ix t i with
  | true => exact decide_eq_true (mem_idx.2 ⟨hi, h⟩)
  | false => exact decide_eq_false fun z => by rw [(mem_idx.1 z).2] at h; cases h
theorem idx_inj {a b : List Bool} (hl : a.length = b.length) (h : idx a = idx b) : a = b := by
  rw [← mask_idx a, ← mask_idx b, hl, h]
/-- the least start -/
def astray (near turn : List Bool) (s : Nat) : List Nat := (List.range near.length).filter fun i => ix near i != ix turn (i % s)
def beginOf (near turn : List Bool) (s : Nat) : Nat := match (astray near turn s).getLast? with | some m => m + 1 | none => 0
theorem sorted_range_filter (p : Nat → Bool) (n : Nat) : ((List.range n).filter p).Pairwise (· < ·) := (List.pairwise_lt_range).filter p
theorem last_max {l : List Nat} (h : l.Pairwise (· < ·)) {m : Nat} (hm : l.getLast? = some m) : m ∈ l ∧ ∀ x ∈ l, x ≤ m := by
  obtain ⟨ys, rfl⟩ := List.getLast?_eq_some_iff.1 hm
  refine ⟨by simp, fun x hx => ?_⟩
  rcases List.mem_append.1 hx with h1 | h1
  · exact Nat.le_of_lt ((List.pairwise_append.1 h).2.2 x h1 m (by simp))
  · rw [List.mem_singleton.1 h1]
    exact Nat.le_refl _
theorem begin_spec (near turn : List Bool) (s : Nat) : beginOf near turn s ≤ near.length ∧ (∀ i, beginOf near turn s ≤ i → i < near.length → ix near i = ix turn (i % s)) ∧ (0 < beginOf near turn s → ix near (beginOf near turn s - 1) ≠ ix turn ((beginOf near turn s - 1) % s)) := by
  unfold beginOf
  have hs := sorted_range_filter (fun i => ix near i != ix turn (i % s)) near.length
  cases h : (astray near turn s).getLast? with
  | none =>
    have e : astray near turn s = [] := List.getLast?_eq_none_iff.1 h
    refine ⟨Nat.zero_le _, fun i _ hi => ?_, fun z => absurd z (by decide)⟩
    by_cases q : ix near i = ix turn (i % s)
    · exact q
    · have : i ∈ astray near turn s := List.mem_filter.2 ⟨List.mem_range.2 hi, by simpa using q⟩
      rw [e] at this
      cases this
  | some m =>
    obtain ⟨h1, h2⟩ := last_max hs h
    have h3 := List.mem_filter.1 h1
    dsimp only
    refine ⟨List.mem_range.1 h3.1, fun i hi hl => ?_, fun _ => by simpa using h3.2⟩
    by_cases q : ix near i = ix turn (i % s)
    · exact q
    · have := h2 i (List.mem_filter.2 ⟨List.mem_range.2 hl, by simpa using q⟩)
      omega
theorem begin_uni {near turn : List Bool} {s b : Nat} (h1 : b ≤ near.length) (h2 : ∀ i, b ≤ i → i < near.length → ix near i = ix turn (i % s)) (h3 : 0 < b → ix near (b - 1) ≠ ix turn ((b - 1) % s)) : beginOf near turn s = b := by
  obtain ⟨g1, g2, g3⟩ := begin_spec near turn s
  rcases Nat.lt_trichotomy (beginOf near turn s) b with h | h | h
  · exact absurd (g2 (b - 1) (by omega) (by omega)) (h3 (by omega))
  · exact h
  · exact absurd (h2 (beginOf near turn s - 1) (by omega) (by omega)) (g3 (by omega))
/-- a least form -/
structure Form (nr tn : List Bool) : Prop where
  pos : 0 < tn.length
  per : leastP tn = tn.length
  beg : 0 < nr.length → ix nr (nr.length - 1) ≠ ix tn ((nr.length - 1) % tn.length)
  le : nr.length + tn.length ≤ 400
theorem form_of {near turn : List Bool} (h : 0 < turn.length) (hl : beginOf near turn (leastP turn) + leastP turn ≤ 400) : Form (near.take (beginOf near turn (leastP turn))) (turn.take (leastP turn)) := by
  have hp := leastP_pos h
  have hle := leastP_le turn
  obtain ⟨g1, g2, g3⟩ := begin_spec near turn (leastP turn)
  have l1 : (near.take (beginOf near turn (leastP turn))).length = beginOf near turn (leastP turn) := by rw [List.length_take]; omega
  have l2 : (turn.take (leastP turn)).length = leastP turn := by rw [List.length_take]; omega
  refine ⟨by omega, by rw [leastP_take h, l2], fun z => ?_, by omega⟩
  rw [l1] at z ⊢
  rw [l2, ix_take (by omega), ix_take (Nat.mod_lt _ hp)]
  exact g3 z
/-- a form told by itself -/
theorem form_again {nr tn : List Bool} (F : Form nr tn) : leastP tn = tn.length ∧ beginOf nr tn tn.length = nr.length := by
  refine ⟨F.per, begin_uni (Nat.le_refl _) (fun i h1 h2 => by omega) F.beg⟩
/-- a finite form: one round of one that is not marked -/
theorem form_fin {nr tn : List Bool} (F : Form nr tn) (h : idx tn = []) : tn = [false] := by
  have hall : ∀ i, i < tn.length → ix tn i = false := fun i hi => by
    cases q : ix tn i with
    | false => rfl
    | true => have := mem_idx.2 ⟨hi, q⟩; rw [h] at this; cases this
  have h1 : tn.length = 1 := by
    rcases Nat.lt_or_ge 1 tn.length with g | g
    · exfalso
      refine leastP_min (t := tn) (k := 1) (by omega) (by rw [F.per]; exact g) (Nat.mod_one _) fun i hi => ?_
      rw [hall i hi, Nat.mod_one, hall 0 (by omega)]
    · have := F.pos; omega
  apply ext_ix (by rw [h1]; rfl)
  intro i hi
  rw [hall i hi]
  have : i = 0 := by omega
  subst this
  rfl
theorem form_fin_begin {nr : List Bool} (F : Form nr [false]) : beginOf (maskOf 400 (idx nr)) [false] 1 = nr.length ∧ (maskOf 400 (idx nr)).take nr.length = nr := by
  have le : nr.length + 1 ≤ 400 := F.le
  refine ⟨begin_uni (by rw [mask_len]; omega) (fun i h1 h2 => ?_) (fun z => ?_), ?_⟩
  · rw [mask_len] at h2
    rw [ix_mask h2, Nat.mod_one]
    refine decide_eq_false fun z => ?_
    have := (mem_idx.1 z).1
    omega
  · have := F.beg z
    rw [ix_mask (by omega)]
    have q : ix nr (nr.length - 1) = true := by
      cases q : ix nr (nr.length - 1) with
      | true => rfl
      | false => exact absurd (by rw [q]; simp [Nat.mod_one, ix]) this
    rw [decide_eq_true (mem_idx.2 ⟨by omega, q⟩), Nat.mod_one]
    simp [ix]
  · apply ext_ix (by rw [List.length_take, mask_len]; omega)
    intro i hi
    rw [List.length_take, mask_len] at hi
    rw [ix_take (by omega), ix_mask (by omega)]
    cases h : ix nr i with
    | true => exact decide_eq_true (mem_idx.2 ⟨by omega, h⟩)
    | false => exact decide_eq_false fun z => by rw [(mem_idx.1 z).2] at h; cases h
/-- the marks below start and of the first round from it on -/
def marks (nr tn : List Bool) : List Bool := nr ++ (List.range tn.length).map fun i => ix tn ((nr.length + i) % tn.length)
theorem marks_len (nr tn : List Bool) : (marks nr tn).length = nr.length + tn.length := by simp [marks]
theorem marks_inj {nr tn nr' tn' : List Bool} (h : 0 < tn.length) (hb : nr.length = nr'.length) (e : marks nr tn = marks nr' tn') : nr = nr' ∧ tn = tn' := by
  have hl := congrArg List.length e
  rw [marks_len, marks_len] at hl
  have ht : tn.length = tn'.length := by omega
  obtain ⟨e1, e2⟩ := List.append_inj e hb
  refine ⟨e1, ?_⟩
  rw [← ht, ← hb] at e2
  apply ext_ix ht
  intro i hi
  have key : ∀ j, j < tn.length → ix tn ((nr.length + j) % tn.length) = ix tn' ((nr.length + j) % tn.length) := fun j hj => by
    have := List.map_inj_left.1 e2 j (List.mem_range.2 hj)
    exact this
  -- j with (b + j) % s = i
  have hm : nr.length % tn.length < tn.length := Nat.mod_lt _ h
  by_cases hc : nr.length % tn.length ≤ i
  · have := key (i - nr.length % tn.length) (by omega)
    have q : (nr.length + (i - nr.length % tn.length)) % tn.length = i := by
      rw [Nat.add_mod, Nat.mod_eq_of_lt (show i - nr.length % tn.length < tn.length by omega)]
      rw [show nr.length % tn.length + (i - nr.length % tn.length) = i by omega, Nat.mod_eq_of_lt hi]
    rw [q] at this
    exact this
  · have := key (i + tn.length - nr.length % tn.length) (by omega)
    have q : (nr.length + (i + tn.length - nr.length % tn.length)) % tn.length = i := by
      rw [Nat.add_mod, Nat.mod_eq_of_lt (show i + tn.length - nr.length % tn.length < tn.length by omega)]
      rw [show nr.length % tn.length + (i + tn.length - nr.length % tn.length) = i + tn.length by omega, Nat.add_mod_right, Nat.mod_eq_of_lt hi]
    rw [q] at this
    exact this
end Ln

/-! Texts of sets of lengths. Pure. -/
namespace L2
open PySem PySem.Spec
namespace Tx1
open TL Ln SX
abbrev spS : Str := S [32]
abbrev fromS : Str := S [102, 114, 111, 109]
abbrev byS : Str := S [98, 121]
abbrev atS : Str := S [97, 116]
abbrev noneS : Str := S [110, 111, 110, 101]
abbrev nS (n : Nat) : Str := dS ((n : Nat) : Int)
theorem nS_tl (n : Nat) : tl (nS n) = numL n := dS_nat n
theorem nS_dig (n : Nat) : ∀ c ∈ tl (nS n), 48 ≤ c ∧ c ≤ 57 := by
  intro c hc
  by_cases h1 : 48 ≤ c
  · by_cases h2 : c ≤ 57
    · exact ⟨h1, h2⟩
    · exact absurd hc (dS_free (by omega) (by omega) _)
  · by_cases h3 : c = 45
    · subst h3
      rw [nS_tl] at hc
      exact absurd hc (numL_no45 n)
    · exact absurd hc (dS_free h3 (by omega) _)
theorem nS_inj {a b : Nat} (h : nS a = nS b) : a = b := by
  have := dS_inj h
  omega
theorem nS_ne {n : Nat} {x : Str} {c : Nat} (hc : c ∈ tl x) (h : c < 48 ∨ 57 < c) : nS n ≠ x := fun z => by
  have := nS_dig n c (by rw [z]; exact hc)
  omega
theorem nS_from (n : Nat) : nS n ≠ fromS := nS_ne (c := 102) (by decide) (by decide)
theorem nS_none (n : Nat) : nS n ≠ noneS := nS_ne (c := 110) (by decide) (by decide)
def tailW (nr tn : List Bool) : List Str := if idx tn = [] then [] else fromS :: nS nr.length :: byS :: nS tn.length :: atS :: (idx tn).map nS
def wordsT (nr tn : List Bool) : List Str := (idx nr).map nS ++ tailW nr tn
def lnT (nr tn : List Bool) : Str := if wordsT nr tn = [] then noneS else Txt.join spS (wordsT nr tn)
theorem words_free (nr tn : List Bool) : ∀ p ∈ wordsT nr tn, ¬ 32 ∈ tl p := by
  have hn : ∀ n : Nat, ¬ 32 ∈ tl (nS n) := fun n h => by have := nS_dig n 32 h; omega
  intro p hp
  rcases List.mem_append.1 hp with h | h
  · obtain ⟨n, _, rfl⟩ := List.mem_map.1 h
    exact hn n
  · unfold tailW at h
    split at h
    · cases h
    · simp only [List.mem_cons] at h
      rcases h with rfl | rfl | rfl | rfl | rfl | h
      · decide
      · exact hn _
      · decide
      · exact hn _
      · decide
      · obtain ⟨n, _, rfl⟩ := List.mem_map.1 h
        exact hn n
theorem split_words {ws : List Str} (hne : ws ≠ []) (h : ∀ p ∈ ws, ¬ 32 ∈ tl p) : Txt.split (Txt.join spS ws) spS = ws := split_join (s := 32) (S := []) rfl (by decide +kernel) hne h
theorem split_lnT {nr tn : List Bool} (h : wordsT nr tn ≠ []) : Txt.split (lnT nr tn) spS = wordsT nr tn := by
  unfold lnT
  rw [if_neg h]
  exact split_words h (words_free nr tn)
theorem lnT_ne_none {nr tn : List Bool} (h : wordsT nr tn ≠ []) : lnT nr tn ≠ noneS := fun z => by
  have e := split_lnT h
  rw [z, show Txt.split noneS spS = [noneS] by decide +kernel] at e
  unfold wordsT at e
  cases hi : idx nr with
  | cons n r =>
    rw [hi] at e
    simp only [List.map_cons, List.cons_append] at e
    exact nS_none n (List.cons.inj e).1.symm
  | nil =>
    rw [hi] at e
    unfold tailW at e
    split at e
    · cases e
    · exact absurd (List.cons.inj e).1 (by decide)
theorem words_nil {nr tn : List Bool} (F : Form nr tn) (h : wordsT nr tn = []) : nr = [] ∧ tn = [false] := by
  unfold wordsT at h
  obtain ⟨h1, h2⟩ := List.append_eq_nil_iff.1 h
  have h3 : idx tn = [] := by
    unfold tailW at h2
    split at h2
    · assumption
    · cases h2
  have h4 := form_fin F h3
  subst h4
  refine ⟨?_, rfl⟩
  have e := (form_fin_begin F)
  rw [List.map_eq_nil_iff] at h1
  rw [h1] at e
  have e1 : beginOf (maskOf 400 []) [false] 1 = nr.length := e.1
  have e2 : beginOf (maskOf 400 []) [false] 1 = 0 := begin_uni (Nat.zero_le _) (fun i _ hi => by rw [mask_len] at hi; rw [ix_mask hi, Nat.mod_one]; simp [ix]) (fun z => absurd z (by decide))
  exact List.length_eq_zero_iff.1 (by omega)
theorem not_from {xs : List Nat} : ¬ fromS ∈ xs.map nS := fun h => by
  obtain ⟨n, _, e⟩ := List.mem_map.1 h
  exact nS_from n e
theorem map_nS_inj {xs ys : List Nat} (h : xs.map nS = ys.map nS) : xs = ys := List.map_inj_right (f := nS) (fun _ _ => nS_inj) |>.1 h
theorem cut_at {α : Type} {x : α} : ∀ {A A' R R' : List α}, ¬ x ∈ A → ¬ x ∈ A' → A ++ x :: R = A' ++ x :: R' → A = A' ∧ R = R'
  | [], [], _, _, _, _, e => ⟨rfl, (List.cons.inj e).2⟩
  | [], b :: B, _, _, _, h, e => absurd (by rw [(List.cons.inj e).1]; exact .head _) h
  | a :: A, [], _, _, h, _, e => absurd (by rw [← (List.cons.inj e).1]; exact .head _) h
  | a :: A, b :: B, _, _, h, h', e => by
    obtain ⟨e1, e2⟩ := List.cons.inj e
    obtain ⟨r1, r2⟩ := cut_at (fun z => h (.tail _ z)) (fun z => h' (.tail _ z)) e2
    exact ⟨by rw [e1, r1], r2⟩
theorem lnT_inj {nr tn nr' tn' : List Bool} (F : Form nr tn) (G : Form nr' tn') (h : lnT nr tn = lnT nr' tn') : nr = nr' ∧ tn = tn' := by
  by_cases h1 : wordsT nr tn = []
  · by_cases h2 : wordsT nr' tn' = []
    · obtain ⟨a, b⟩ := words_nil F h1
      obtain ⟨c, d⟩ := words_nil G h2
      exact ⟨a.trans c.symm, b.trans d.symm⟩
    · have := lnT_ne_none h2
      rw [← h] at this
      exact absurd (by unfold lnT; rw [if_pos h1]) this
  · by_cases h2 : wordsT nr' tn' = []
    · have := lnT_ne_none h1
      rw [h] at this
      exact absurd (by unfold lnT; rw [if_pos h2]) this
    · have e : wordsT nr tn = wordsT nr' tn' := by rw [← split_lnT h1, ← split_lnT h2, h]
      unfold wordsT tailW at e
      by_cases i1 : idx tn = []
      · rw [if_pos i1, List.append_nil] at e
        by_cases i2 : idx tn' = []
        · rw [if_pos i2, List.append_nil] at e
          have e := map_nS_inj e
          have t1 := form_fin F i1
          have t2 := form_fin G i2
          subst t1
          subst t2
          refine ⟨?_, rfl⟩
          obtain ⟨a1, a2⟩ := form_fin_begin F
          obtain ⟨b1, b2⟩ := form_fin_begin G
          rw [← a2, ← b2, ← a1, ← b1, e]
        · rw [if_neg i2] at e
          exact absurd (by rw [e]; simp) (not_from (xs := idx nr))
      · rw [if_neg i1] at e
        by_cases i2 : idx tn' = []
        · rw [if_pos i2, List.append_nil] at e
          exact absurd (by rw [← e]; simp) (not_from (xs := idx nr'))
        · rw [if_neg i2] at e
          obtain ⟨e1, e2⟩ := cut_at not_from not_from e
          have f1 := nS_inj (List.cons.inj e2).1
          have e3 := (List.cons.inj (List.cons.inj e2).2).2
          have f2 := nS_inj (List.cons.inj e3).1
          have e4 := (List.cons.inj (List.cons.inj e3).2).2
          exact ⟨idx_inj f1 (map_nS_inj e1), idx_inj f2 (map_nS_inj e4)⟩
end Tx1
end L2

/-! for i, x in enumerate(t), t a tuple. -/
namespace L2
open PySem PySem.Spec PyProof.Rows
theorem meets_enum1 {v : Value} {o : Obj} {H : Heap → Prop} (B : Begins v o H) :
    Meets (Builtin.«enumerate.__new__» ⟨[.type "enumerate", v], []⟩) (fun _ R z => H z.heap ∧
      R (.ok (.ret (.ref (z.heap.push o).objs.size))) { z with heap := (z.heap.push o).push { cls := .type "enumerate", data := .fields #[.none, .bool false, .ref z.heap.objs.size, rawInt 0, .none, .none] } }) :=
  .of_wp fun prog w A R z h => by
    obtain ⟨hp, g, d, tk, os⟩ := z
    obtain ⟨h1, h⟩ := h
    have hsub := sub_enumerate
    have q1 : ∀ {A' : Around} {E : Value → Shared → Prop} {Q : Value → Shared → Prop}, Q (.ref hp.objs.size) ⟨hp.push o, g, d, tk, os⟩ → wpAny (model prog w) A' (pyIter v) Q E ⟨hp, g, d, tk, os⟩ :=
      fun q => B.iter prog w _ _ ⟨hp, g, d, tk, os⟩ _ h1 q
    wp_walk using q1
    first
      | exact ⟨_, rfl, h⟩
      | (refine wpAny_stack_any fun st => wpAny_pure ?_
         split
         · rename_i c _ _ _ _ _
           cases (c == Value.type "enumerate") <;> (wp_walk using q1; exact ⟨_, rfl, h⟩)
         · wp_walk using q1
           exact ⟨_, rfl, h⟩)
section
variable {prog : Program} {w : World} {A : Around} {E : Value → Shared → Prop} {z : Shared}
theorem call_enum1 {v : Value} {o : Obj} {H : Heap → Prop} {Q : Value → Shared → Prop} (B : Begins v o H) (h1 : H z.heap)
    (h : ∀ h', IsEnum h' (z.heap.objs.size + 1) z.heap.objs.size 0 .none → h'.get? z.heap.objs.size = some o → h'.objs.size = z.heap.objs.size + 2 →
      (∀ b u, z.heap.get? b = some u → h'.get? b = some u) → Q (.ref (z.heap.objs.size + 1)) { z with heap := h' }) :
    wpAny (model prog w) A (call (.type "enumerate") [v]) Q E z := by
  refine callType_new F.called_enumerate (by decide) (F.typeCall_enumerate_1 _) (F.newCall_enumerate_1 _) (fun obj => F.args_object_init_2 obj _) F.entry_enumerate_new (meets_enum1 B) ⟨h1, ?_⟩
  have hz : (z.heap.push o).objs.size = z.heap.objs.size + 1 := Heap.size_push ..
  show _ ∧ _
  rw [hz]
  have he : IsEnum ((z.heap.push o).push { cls := .type "enumerate", data := .fields #[.none, .bool false, .ref z.heap.objs.size, rawInt 0, .none, .none] }) (z.heap.objs.size + 1) z.heap.objs.size 0 .none := by
    have q := Heap.get?_push_size (z.heap.push o) (o := { cls := .type "enumerate", data := .fields #[.none, .bool false, .ref z.heap.objs.size, rawInt 0, .none, .none] }) rfl
    rw [hz] at q
    exact q
  exact ⟨⟨_, he, rfl⟩, h _ he (Heap.get?_push_of_some _ (Heap.get?_push_size _ B.free)) (by rw [Heap.size_push, hz]) fun b u x => Heap.get?_push_of_some _ (Heap.get?_push_of_some _ x)⟩
end
def IteT (K : PySem.W.Frag) (a : Addr) : It :=
  ⟨fun i H => ∃ (xs : List V) (x : V), SqT K H a xs ∧ xs[i]? = some x,
   fun i H v H' => ∃ T x, v = .ref T ∧ H T = none ∧ H' = upd H T (.tup [.int (i : Nat), x]) ∧ ∀ xs, SqT K H a xs → xs[i]? = some x,
   fun i H => ∃ xs : List V, SqT K H a xs ∧ xs.length ≤ i⟩
theorem isTuple_of {h : Heap} {a : Addr} {xs : Array Value} (p : IsTup h a xs) : h.IsTuple a xs := by
  obtain ⟨o, h1, h2, n, h3⟩ := p
  first
    | exact ⟨o, h1, h2, n, h3⟩
    | exact ⟨o, h1, h2, ⟨n, h3⟩⟩
theorem turn_enumT {P : Program} {w : World} {K : PySem.W.Frag} {elts : List Expr} {kk : Nat} {tpos : Pos} (a e it : Addr) :
    Turn P w K (.Tuple elts kk tpos) (IteT K a) [e, it] e (fun i h => (∃ old, IsEnum h e it ((i : Nat) : Int) old) ∧ h.IsTupleIter it a i ∧ e ≠ it ∧ a ≠ it ∧ a ≠ e) where
  mem := by simp
  obj := fun i h st b hb => by
    obtain ⟨⟨old, he⟩, ⟨o, ho, hc, hd⟩, _⟩ := st
    have q : b = e ∨ b = it := by simpa using hb
    rcases q with q | q
    · rw [q]; exact ⟨_, he, fun v z => nomatch z⟩
    · rw [q]; exact ⟨o, ho, fun v z => by rw [hd] at z; cases z⟩
  keep := fun i h h' st k => let ⟨⟨old, he⟩, hi, hne⟩ := st; ⟨⟨old, k e (by simp) _ he⟩, hi.at fun o q => k it (by simp) o q, hne⟩
  item := by
    intro X hP hw hK hc i pins z σ H E I hf st hg
    subst hP hw hK
    obtain ⟨⟨old, he⟩, hit, hne, hai, hae⟩ := st
    obtain ⟨xs, x, hq, hx⟩ := hg
    obtain ⟨its, rv, p, hz⟩ := I.tuple hq
    obtain ⟨u, hu, ru⟩ := rv.get hx
    have hel : e < z.heap.objs.size := Heap.lt_size he
    have hil : it < z.heap.objs.size := by obtain ⟨_, q, _⟩ := hit; exact Heap.lt_size q
    have hlt : i < its.toArray.size := by
      have q := (List.getElem?_eq_some_iff.mp hu).1
      simpa using q
    refine wpAny_pyNext_enum_itemD (Draws.tuple (A := X.A.in1) (I.ok.hd hc) it a hai its.toArray) he ⟨hit, isTuple_of p⟩ hlt hne (by simp [hne, Ne.symm hae]) fun y h' tk hP ho hst' hT hsz hk => ?_
    have ey : y = u := by
      have q : its.toArray[i]? = some u := by simpa using hu
      rw [q] at hP
      exact (Option.some.inj hP).symm
    subst ey
    refine ⟨_, rfl, wpAny_letOwnedTupleGo_enum (s := { z with heap := h', toks := tk + 1 }) ho fun h'' he' sb => ?_⟩
    have hT2 : h''.get? z.heap.objs.size = some { cls := .type "tuple", data := .seq #[.int i tk, y] } := (sb.2 _ (Nat.ne_of_gt hel)).trans hT
    have new : ObjOk X.prog X.w (upd H z.heap.objs.size (.tup [.int (i : Nat), x])) h'' z.heap.objs.size (.tup [.int (i : Nat), x]) :=
      ⟨by show 2 ≤ sizeLine; decide, [.int i tk, y], .cons ⟨_, rfl⟩ (.cons ru .nil), ⟨_, hT2, rfl, _, rfl⟩⟩
    have I1 : Inv X pins σ (upd H z.heap.objs.size (.tup [.int (i : Nat), x])) { z with heap := h'', toks := tk + 1 } :=
      I.turnedNew (ch := [e, it]) (fun b ob hb q => (sb.2 b (fun y => hb (by simp [y]))).trans (hk b ob (fun y => hb (by simp [y])) (fun y => hb (by simp [y])) q)) hf (Nat.le_refl _) new
    refine ⟨.ref z.heap.objs.size, _, I1, rfl, ⟨_, x, rfl, I.hok.fresh (Nat.le_refl _), rfl, fun ys hy => by rw [I.tuple_inj hy hq]; exact hx⟩, ⟨⟨y, ?_⟩, hst'.1.at fun o q => (sb.2 it (Ne.symm hne)).trans q, hne, hai, hae⟩, fun b hb => ?_⟩
    · have e1 : ((i + 1 : Nat) : Int) = (i : Int) + 1 := by omega
      rw [e1]; exact he'
    · have hb' : b < z.heap.objs.size := by
        have q : b = e ∨ b = it := by simpa using hb
        rcases q with q | q
        · rw [q]; exact hel
        · rw [q]; exact hil
      rw [upd_ne (Nat.ne_of_lt hb')]
      exact (hf b hb).1
  done := by
    intro X hP hw hK hc i pins z σ H E I hf st hg
    subst hP hw hK
    obtain ⟨⟨old, he⟩, hit, hne, hai, hae⟩ := st
    obtain ⟨xs, hq, hx⟩ := hg
    obtain ⟨its, rv, p, hz⟩ := I.tuple hq
    obtain ⟨f0, f1, f2, f3, f4, f5⟩ := hf it (by simp)
    have hl := rv.length
    have hT : z.TypeIs (.ref e) "enumerate" := ⟨_, he, rfl⟩
    unfold pyNext
    refine wpAny_bind (wpAny_attempt (wpAny_callSpecial?_slot (name := Str.ofString "__next__") hT F.slot_enumerate_next (wpAny_call_entry F.slot_enumerate_next hT F.entry_enumerate_next ?_ (F.args_enumerate_next_1 _))))
    show wpAny _ _ (field (.ref e) 2 >>= _) _ _ z
    refine wpAny_bind (wpAny_field he rfl (x := .ref it) rfl (wpAny_bind (wpAny_nextOf_tuple_end (A := X.A.in1) (I.ok.hd hc) hit (isTuple_of p) (by simp; omega) fun h' x he' hx' => ?_)))
    obtain ⟨o, ho, hcl⟩ := hx'
    exact wpAny_bind (wpAny_isInstance (T := "StopIteration") (b := true) ⟨o, ho, hcl⟩ isSubtype_stop (wpAny_pure ⟨rfl, I.turned (t' := z.toks) (fun b o hb q => he' b o hb q) f0 f1 f3 f4 f5⟩))
  self := fun A i z Q E st h => let ⟨⟨_, he⟩, _⟩ := st; wpAny_pyIter_enum he h
def iEnumT (K : PySem.W.Frag) (ta : TA) : TI := fun σ H R => ta σ H fun vs H1 => ∃ a xs, vs = [.ref a] ∧ SqT K H1 a xs ∧ R (IteT K a) H1
theorem pi_enumT {X : Cx} {e : Expr} {ta : TA} {p pos tpos : Pos} {elts : List Expr} {kk : Nat} (hg : Gl X "enumerate") (hm : X.mg "enumerate" = none) (ha : PA X [e] ta) (hs : starEach [e] X.env = [(false, eval e X.env)] := by rfl) :
    PI X (.Tuple elts kk tpos) (.Call (.Name "enumerate" p) [e] [] pos) (iEnumT X.K ta) := by
  refine ⟨fun pins z σ H R I h => ?_⟩
  refine Call_ (ld_blt I hg hm boot_enumerate (PyProof.Rows.callWith_type1 (thn (ha.run pos pins z σ H _ I h) fun us z1 ⟨vs, H1, I1, r1, q1⟩ => ?_) hs rfl))
  obtain ⟨a, xs, ex, hq, q⟩ := q1
  subst ex
  cases r1 with
  | cons r rr =>
    cases rr
    cases r
    obtain ⟨its, rv, p', hz⟩ := I1.tuple hq
    have hal : a < z1.heap.objs.size := by obtain ⟨_, y, _⟩ := p'; exact Heap.lt_size y
    refine call_enum1 (begins_tuple a its.toArray) (isTuple_of p') fun h' he hit hsz hk => wpAny_pyIter_enum he ?_
    have I2 : Inv X pins σ H1 { z1 with heap := h' } := I1.kept (t' := z1.toks) hk
    refine ⟨z1.heap.objs.size + 1, [z1.heap.objs.size + 1, z1.heap.objs.size], _, _, H1, rfl, I2, turn_enumT a (z1.heap.objs.size + 1) z1.heap.objs.size, ⟨⟨.none, he⟩, ⟨_, hit, rfl, rfl⟩, Nat.succ_ne_self _, Nat.ne_of_lt hal, Nat.ne_of_lt (Nat.lt_succ_of_lt hal)⟩, fun b hb => ?_, q⟩
    have e' : b = z1.heap.objs.size + 1 ∨ b = z1.heap.objs.size := by simpa using hb
    have hle : z1.heap.objs.size ≤ b := by
      rcases e' with y | y
      · rw [y]; exact Nat.le_add_right _ _
      · rw [y]; exact Nat.le_refl _
    exact I1.fpOk hle (I1.hok.fresh hle)
end L2

/-! for i, x in enumerate(t), told of what is known. -/
namespace AW
open PySem PySem.Spec PyProof.Rows L2
section
variable {c : Cw} {kn : Hp} {n : Nat} {σ : L2.St} {K : PySem.W.Frag}
theorem s_forET {D : AE} {ta : TA} {gt : TG} {tb : TS}
    (h : W c (ta σ) kn n fun vs kn1 n1 => ∃ (a : Addr) (xs : List V) (Pv : Nat → L2.St → Hp → Nat → Prop), vs = [.ref a] ∧ kn1 a = some (.tup xs) ∧ Pv 0 σ kn1 n1 ∧
      (∀ i σ' kn' n', Pv i σ' kn' n' → kn' a = some (.tup xs)) ∧
      (∀ (i : Nat) x σ' kn' n' T, xs[i]? = some x → Pv i σ' kn' n' → kn' T = none → WG c gt (.ref T) σ' (upd kn' T (.tup [.int (i : Nat), x])) n' fun σ2 kn2 n2 => WS c tb { D with nx := Pv (i + 1), ct := Pv (i + 1), bk := D.nx } σ2 kn2 n2) ∧
      ∀ σ' kn' n', Pv xs.length σ' kn' n' → D.nx σ' kn' n') : WS c (tFor (iEnumT K ta) gt tb) D σ kn n := by
  intro H g D' f
  refine h H g _ fun vs kn1 n1 H1 hJ g1 => ?_
  obtain ⟨a, xs, Pv, e, ha, h0, hk, hs, hd⟩ := hJ
  refine ⟨a, xs, e, sqt (g1.ex _ _ ha), ?_⟩
  refine ⟨fun i m σ' H' => m = xs.length - i ∧ i ≤ xs.length ∧ ∃ kn' n', Pv i σ' kn' n' ∧ Good c kn' n' H', ⟨_, rfl, Nat.zero_le _, kn1, n1, h0, g1⟩, ?_⟩
  rintro i m σ' H' ⟨rfl, hi, kn', n', p, g'⟩
  have ka := hk _ _ _ _ p
  by_cases hlt : i < xs.length
  · refine .inr ⟨⟨xs, xs[i], sqt (g'.ex _ _ ka), List.getElem?_eq_getElem hlt⟩, fun σ2 H2 => ∃ kn2 n2, Pv (i + 1) σ2 kn2 n2 ∧ Good c kn2 n2 H2, fun σ2 H2 ⟨kn2, n2, p2, g2⟩ => ⟨xs.length - (i + 1), by omega, rfl, hlt, kn2, n2, p2, g2⟩, fun x H2 y => ?_⟩
    obtain ⟨T, x', rfl, hT, rfl, h1⟩ := y
    refine hs i x' σ' kn' n' T (h1 xs (sqt (g'.ex _ _ ka))) p (g'.free hT) _ (g'.new hT) _ fun σ3 kn3 n3 H3 h3 g3 => h3 H3 g3 _ ⟨fun σ4 kn4 n4 H4 h4 g4 => ⟨kn4, n4, h4, g4⟩, f.rt, fun σ4 kn4 n4 H4 h4 g4 => f.nx _ _ _ _ h4 g4, fun σ4 kn4 n4 H4 h4 g4 => ⟨kn4, n4, h4, g4⟩⟩
  · have e : i = xs.length := Nat.le_antisymm hi (Nat.le_of_not_lt hlt)
    exact .inl ⟨⟨xs, sqt (g'.ex _ _ ka), Nat.le_of_not_lt hlt⟩, f.nx _ _ _ _ (hd σ' kn' n' (e ▸ p)) g'⟩
end
end AW

/-! tuple * int from 1 on: by 1 it is the same tuple -/
namespace L2
open PySem PySem.Spec PyProof.Rows
theorem tuple_mul1W (l : Addr) (items : Array Value) (n : Nat) (dd : Option Addr) (sl : Array (Option Value)) (u : Tok) :
    Meets (Builtin.«tuple.__mul__» ⟨[.ref l, .int 1 u], []⟩) (fun _ R s => s.heap.get? l = some { cls := .type "tuple", dict := dd, data := .seq items n, slots := sl } ∧ R (.ok (.ret (Value.ref l))) s) :=
  .of_wp fun prog w A R s h => by
    obtain ⟨hp, g, d, tk, os⟩ := s
    obtain ⟨hl, h⟩ := h
    have f1 := AutoSeq1.idx_int
    wp_walk using wpAny_loadPart' hl
    repeat (first
      | (refine wpAny_ite_false (decide_eq_false (by decide)) ?_; wp_walk using wpAny_loadPart' hl)
      | (refine wpAny_ite_true (decide_eq_true (by rw [show ((1 : Int) == 1) = true from rfl, Bool.or_true])) ?_; wp_walk using wpAny_loadPart' hl))
    exact ⟨_, rfl, h⟩
def rRepU (K : PySem.W.Frag) : R2 := fun x y H Q => ∃ l k xs, x = .ref l ∧ y = .int k ∧ SqT K H l xs ∧ xs ≠ [] ∧ 1 ≤ k ∧ k ≤ 1000 ∧ xs.length ≤ 1000 ∧ (k = 1 → Q (.ref l) H) ∧ (2 ≤ k → ∀ p, H p = none → Q (.ref p) (upd H p (.tup (List.replicate k.toNat xs).flatten)))
theorem op_repU {X : Cx} : OpR X (binaryOp .Mult) (rRepU X.K) := by
  intro pins s σ H x y v u Q I rx ry h
  obtain ⟨l, k, xs, rfl, rfl, hT, hne, h1, h2, hz, q1, q2⟩ := h
  by_cases hk : k = 1
  · subst hk
    cases rx
    obtain ⟨t, rfl⟩ := ry
    obtain ⟨its, r, ⟨⟨cls, dd, data, sl⟩, ho, hc, n, hd⟩, hs⟩ := I.tuple hT
    simp only at hc hd
    subst hc hd
    refine wpAny_binaryOp_repeat_ref (T := "tuple") (U := "int") (by decide) ⟨_, ho, rfl⟩ (fun s' => typeIs_int s' 1 t) noFill_tuple_mul F.fills_int_mul F.slot_int_rmul repeat_tuple F.slot_int_index.lookup
      (call_meets F.slot_int_rmul (typeIs_int s 1 t) F.entry_int_rmul (F.args_int_rmul_2 _ _) (int_rmul_tuple 1 t l its.toArray n dd sl)
        ⟨ho, rfl, ⟨_, ho, rfl⟩, call_meets F.slot_tuple_mul ⟨_, ho, rfl⟩ F.entry_tuple_mul (F.args_tuple_mul_2 _ _) (tuple_mul1W l its.toArray n dd sl t) ⟨ho, ?_⟩⟩)
    exact ⟨.ref l, _, I, rfl, q1 rfl⟩
  · exact op_repT pins s σ H _ _ v u Q I rx ry ⟨l, k, xs, rfl, rfl, hT, hne, by omega, h2, hz, q2 (by omega)⟩
end L2
namespace AW
open PySem PySem.Spec PyProof.Rows L2 LamX
theorem r_repU {K : PySem.W.Frag} {c : Cw} {kn : Hp} {n : Nat} {Q : V → Hp → Nat → Prop} {l : Addr} {xs : List V} {k : Int} (h : kn l = some (.tup xs)) (hne : xs ≠ []) (h1 : 1 ≤ k) (h2 : k ≤ 1000) (hz : xs.length ≤ 1000)
    (q : ∀ p k', Ext kn k' → k' p = some (.tup (List.replicate k.toNat xs).flatten) → Q (.ref p) k' n) : W c (rRepU K (.ref l) (.int k)) kn n Q :=
  fun H g Q' f => ⟨l, k, xs, rfl, rfl, sqt (g.ex _ _ h), hne, h1, h2, hz, fun e => by subst e; exact f _ kn n H (q l kn (fun _ _ z => z) (by simpa using h)) g, fun e p hp => f _ _ n _ (q p _ (fun x o e => by rw [upd_ne (fun z => by rw [z, g.free hp] at e; cases e)]; exact e) upd_same) (g.new hp)⟩
end AW

namespace NN
open PySem PySem.Spec PyProof.Rows L2 LamX AW ClX
def codeTab : Obj → Option Addr
  | ⟨.type "code", _, .fields vs, _⟩ => match (vs[11]? : Option Value) with | some (.ref P) => some P | _ => none
  | _ => none
def codeB (o : Obj) (c P : Addr) : Bool := PySem.W.codeHdIn [(c, o)] c P
theorem codeB_in {K : PySem.W.Frag} {o : Obj} {c P : Addr} (h : K.lookup c = some o) (e : codeB o c P = true) : PySem.W.codeHdIn K c P = true := by
  have q : ([(c, o)] : PySem.W.Frag).lookup c = some o := by simp [List.lookup]
  unfold codeB PySem.W.codeHdIn at e
  rw [q] at e
  unfold PySem.W.codeHdIn
  rw [h]
  exact e
theorem mem_look {β : Type} : ∀ {l : List (Addr × β)} {a : Addr} {b : β}, l.lookup a = some b → (a, b) ∈ l
  | [], _, _, e => by cases e
  | (c, x) :: r, a, b, e => by
    rw [List.lookup_cons] at e
    cases hb : a == c with
    | true => rw [hb] at e; cases e; rw [eq_of_beq hb]; exact .head _
    | false => rw [hb] at e; exact .tail _ (mem_look e)
theorem none_of {K : Params → PySem.W.Frag} {as : List Addr} {e : ∀ P, as = (K P).map (·.1)} {ts : List Addr} {w : World} {h : Heap} (_ : (PySem.W.kmHook K as e ts).says w h) {a : Addr} (ha : decide (a ∈ as) = false) : (K w.params).lookup a = none := by
  cases q : (K w.params).lookup a with
  | none => rfl
  | some o =>
    have m : a ∈ as := by rw [e w.params]; exact List.mem_map.mpr ⟨(a, o), mem_look q, rfl⟩
    exact absurd m (of_decide_eq_false ha)
def top (i : Nat) : Stmt := PySem.Challenge.pw_nodeadnight_k41_calendars_made.main.body.getD i (.Pass ⟨0, 0, 0, 0⟩)
abbrev s_is_whole : Stmt := top 5
theorem sc_is_whole : FnScope ["value"] ["value"] (defScope s_is_whole) :=
  ⟨rfl, rfl, rfl, by decide +kernel, rfl, by decide +kernel, by decide +kernel⟩
abbrev s_is_from : Stmt := top 6
theorem sc_is_from : FnScope ["value", "least", "most"] ["value", "least", "most"] (defScope s_is_from) :=
  ⟨rfl, rfl, rfl, by decide +kernel, rfl, by decide +kernel, by decide +kernel⟩
abbrev s_is_day : Stmt := top 7
theorem sc_is_day : FnScope ["value"] ["value"] (defScope s_is_day) :=
  ⟨rfl, rfl, rfl, by decide +kernel, rfl, by decide +kernel, by decide +kernel⟩
abbrev s_BadCalendar___init__ : Stmt := inClass (top 15) 0
theorem sc_BadCalendar___init__ : FnScope ["self", "part"] ["self", "part"] (defScope s_BadCalendar___init__) :=
  ⟨rfl, rfl, rfl, by decide +kernel, rfl, by decide +kernel, by decide +kernel⟩
abbrev s_Stay___init__ : Stmt := inClass (top 25) 1
theorem sc_Stay___init__ : FnScope ["self", "first", "after"] ["self", "first", "after"] (defScope s_Stay___init__) :=
  ⟨rfl, rfl, rfl, by decide +kernel, rfl, by decide +kernel, by decide +kernel⟩
abbrev s_Calendar___init__ : Stmt := inClass (top 28) 3
theorem sc_Calendar___init__ : FnScope ["self", "rooms", "first", "after"] ["self", "rooms", "first", "after"] (defScope s_Calendar___init__) :=
  ⟨rfl, rfl, rfl, by decide +kernel, rfl, by decide +kernel, by decide +kernel⟩
abbrev s_Calendar_names : Stmt := inClass (top 28) 4
theorem sc_Calendar_names : FnScope ["self"] ["self"] (defScope s_Calendar_names) :=
  ⟨rfl, rfl, rfl, by decide +kernel, rfl, by decide +kernel, by decide +kernel⟩
abbrev s_Calendar_free_rooms : Stmt := inClass (top 28) 5
theorem sc_Calendar_free_rooms : FnScope ["self", "rooms", "_", "stay", "night"] ["self"] (defScope s_Calendar_free_rooms) :=
  ⟨rfl, rfl, rfl, by decide +kernel, rfl, by decide +kernel, by decide +kernel⟩
abbrev s_Calendar___contains__ : Stmt := inClass (top 28) 9
theorem sc_Calendar___contains__ : FnScope ["self", "x"] ["self", "x"] (defScope s_Calendar___contains__) :=
  ⟨rfl, rfl, rfl, by decide +kernel, rfl, by decide +kernel, by decide +kernel⟩
abbrev s_Calendar___len__ : Stmt := inClass (top 28) 10
theorem sc_Calendar___len__ : FnScope ["self"] ["self"] (defScope s_Calendar___len__) :=
  ⟨rfl, rfl, rfl, by decide +kernel, rfl, by decide +kernel, by decide +kernel⟩
abbrev s_Calendar___iter__ : Stmt := inClass (top 28) 11
theorem sc_Calendar___iter__ : FnScope ["self"] ["self"] (defScope s_Calendar___iter__) :=
  ⟨rfl, rfl, rfl, by decide +kernel, rfl, by decide +kernel, by decide +kernel⟩
abbrev s_Calendar_guests : Stmt := inClass (top 28) 13
theorem sc_Calendar_guests : GScope ["self", "stays", "name"] ["self"] (defScope s_Calendar_guests) :=
  ⟨rfl, rfl, rfl, by decide +kernel, rfl, by decide +kernel, by decide +kernel⟩
abbrev s_Calendar_supply : Stmt := inClass (top 28) 15
theorem sc_Calendar_supply : FnScope ["self", "day", "free", "rooms"] ["self", "day"] (defScope s_Calendar_supply) :=
  ⟨rfl, rfl, rfl, by decide +kernel, rfl, by decide +kernel, by decide +kernel⟩
abbrev s_Calendar_room_plan : Stmt := inClass (top 28) 16
theorem sc_Calendar_room_plan : FnScope ["self", "plan", "ends", "_", "name", "stay", "room", "end"] ["self"] (defScope s_Calendar_room_plan) :=
  ⟨rfl, rfl, rfl, by decide +kernel, rfl, by decide +kernel, by decide +kernel⟩
abbrev s_Calendar_with_rooms : Stmt := inClass (top 28) 17
theorem sc_Calendar_with_rooms : FnScope ["self", "rooms", "calendar", "at", "free"] ["self", "rooms"] (defScope s_Calendar_with_rooms) :=
  ⟨rfl, rfl, rfl, by decide +kernel, rfl, by decide +kernel, by decide +kernel⟩
abbrev s_Calendar_twin : Stmt := inClass (top 28) 18
theorem sc_Calendar_twin : FnScope ["self"] ["self"] (defScope s_Calendar_twin) :=
  ⟨rfl, rfl, rfl, by decide +kernel, rfl, by decide +kernel, by decide +kernel⟩
abbrev s_Calendar___eq__ : Stmt := inClass (top 28) 21
theorem sc_Calendar___eq__ : FnScope ["self", "other"] ["self", "other"] (defScope s_Calendar___eq__) :=
  ⟨rfl, rfl, rfl, by decide +kernel, rfl, by decide +kernel, by decide +kernel⟩
abbrev s_parts_of : Stmt := top 32
theorem sc_parts_of : FnScope ["calendar"] ["calendar"] (defScope s_parts_of) :=
  ⟨rfl, rfl, rfl, by decide +kernel, rfl, by decide +kernel, by decide +kernel⟩
abbrev s_names_by_stays : Stmt := top 33
theorem sc_names_by_stays : FnScope ["calendar", "found", "name", "stay", "place", "order", "number"] ["calendar"] (defScope s_names_by_stays) :=
  ⟨rfl, rfl, rfl, by decide +kernel, rfl, by decide +kernel, by decide +kernel⟩
abbrev s__law_pen : Stmt := top 35
theorem sc__law_pen : FnScope ["script"] ["script"] (defScope s__law_pen) :=
  ⟨rfl, rfl, rfl, by decide +kernel, rfl, by decide +kernel, by decide +kernel⟩
abbrev s__law_draw : Stmt := top 36
theorem sc__law_draw : FnScope ["pen", "many", "digit", "turn", "cell", "great", "mixed"] ["pen", "many"] (defScope s__law_draw) :=
  ⟨rfl, rfl, rfl, by decide +kernel, rfl, by decide +kernel, by decide +kernel⟩
abbrev s__law_pick : Stmt := top 37
theorem sc__law_pick : FnScope ["pen", "some"] ["pen", "some"] (defScope s__law_pick) :=
  ⟨rfl, rfl, rfl, by decide +kernel, rfl, by decide +kernel, by decide +kernel⟩
abbrev s__law_heard : Stmt := top 38
theorem sc__law_heard : FnScope ["ask", "caught", "found", "error", "some"] ["ask"] (defScope s__law_heard) :=
  ⟨rfl, rfl, rfl, by decide +kernel, rfl, by decide +kernel, by decide +kernel⟩
abbrev s__law_odd : Stmt := top 39
theorem sc__law_odd : FnScope ["pen"] ["pen"] (defScope s__law_odd) :=
  ⟨rfl, rfl, rfl, by decide +kernel, rfl, by decide +kernel, by decide +kernel⟩
abbrev s__law_is_day : Stmt := top 40
theorem sc__law_is_day : FnScope ["value"] ["value"] (defScope s__law_is_day) :=
  ⟨rfl, rfl, rfl, by decide +kernel, rfl, by decide +kernel, by decide +kernel⟩
abbrev s__law_wrong : Stmt := top 41
theorem sc__law_wrong : FnScope ["number", "start", "goal"] ["number", "start", "goal"] (defScope s__law_wrong) :=
  ⟨rfl, rfl, rfl, by decide +kernel, rfl, by decide +kernel, by decide +kernel⟩
abbrev s__law_face_right : Stmt := top 42
theorem sc__law_face_right : FnScope ["made", "number", "start", "goal", "many", "name", "told", "k", "row"] ["made", "number", "start", "goal"] (defScope s__law_face_right) :=
  ⟨rfl, rfl, rfl, by decide +kernel, rfl, by decide +kernel, by decide +kernel⟩
abbrev s__law_unlike_right : Stmt := top 43
theorem sc__law_unlike_right : FnScope ["made", "number", "start", "goal", "some", "one"] ["made", "number", "start", "goal"] (defScope s__law_unlike_right) :=
  ⟨rfl, rfl, rfl, by decide +kernel, rfl, by decide +kernel, by decide +kernel⟩
abbrev s_law : Stmt := top 44
theorem sc_law : FnScope ["script", "pen", "turn", "number", "start", "near", "goal", "wrong", "heard"] ["script"] (defScope s_law) :=
  ⟨rfl, rfl, rfl, by decide +kernel, rfl, by decide +kernel, by decide +kernel⟩
structure Tx (K : PySem.W.Frag) (mg : Str → Option Value) where
  f_is_whole : Addr
  d_is_whole : FuncData
  f_is_from : Addr
  d_is_from : FuncData
  f_is_day : Addr
  d_is_day : FuncData
  c_StayError : Addr
  c_BadCalendar : Addr
  f_BadCalendar___init__ : Addr
  d_BadCalendar___init__ : FuncData
  c_Stay : Addr
  f_Stay___init__ : Addr
  d_Stay___init__ : FuncData
  c_Calendar : Addr
  f_Calendar___init__ : Addr
  d_Calendar___init__ : FuncData
  f_Calendar___contains__ : Addr
  d_Calendar___contains__ : FuncData
  f_Calendar___len__ : Addr
  d_Calendar___len__ : FuncData
  f_Calendar___iter__ : Addr
  d_Calendar___iter__ : FuncData
  f_Calendar___eq__ : Addr
  d_Calendar___eq__ : FuncData
  f_Calendar_guests : Addr
  d_Calendar_guests : FuncData
  f_Calendar_supply : Addr
  d_Calendar_supply : FuncData
  f_Calendar_room_plan : Addr
  d_Calendar_room_plan : FuncData
  f_Calendar_with_rooms : Addr
  d_Calendar_with_rooms : FuncData
  f_Calendar_twin : Addr
  d_Calendar_twin : FuncData
  f_Calendar_names : Addr
  p_Calendar_names : Addr
  d_Calendar_names : FuncData
  f_Calendar_free_rooms : Addr
  p_Calendar_free_rooms : Addr
  d_Calendar_free_rooms : FuncData
  f_parts_of : Addr
  d_parts_of : FuncData
  f_names_by_stays : Addr
  d_names_by_stays : FuncData
  f__law_pen : Addr
  d__law_pen : FuncData
  f__law_draw : Addr
  d__law_draw : FuncData
  f__law_pick : Addr
  d__law_pick : FuncData
  f__law_heard : Addr
  d__law_heard : FuncData
  f__law_odd : Addr
  d__law_odd : FuncData
  f__law_is_day : Addr
  d__law_is_day : FuncData
  f__law_wrong : Addr
  d__law_wrong : FuncData
  f__law_face_right : Addr
  d__law_face_right : FuncData
  f__law_unlike_right : Addr
  d__law_unlike_right : FuncData
  f_law : Addr
  d_law : FuncData
  cc_law : Addr
  tp_law : Addr
  g_is_whole : mg "is_whole" = some (.ref f_is_whole)
  F_is_whole : Fun K "is_whole" "is_whole" s_is_whole f_is_whole d_is_whole
  bd_is_whole : Binds K d_is_whole ["value"] []
  g_is_from : mg "is_from" = some (.ref f_is_from)
  F_is_from : Fun K "is_from" "is_from" s_is_from f_is_from d_is_from
  bd_is_from : Binds K d_is_from ["value", "least", "most"] []
  g_is_day : mg "is_day" = some (.ref f_is_day)
  F_is_day : Fun K "is_day" "is_day" s_is_day f_is_day d_is_day
  bd_is_day : Binds K d_is_day ["value"] []
  g_StayError : mg "StayError" = some (.ref c_StayError)
  g_BadCalendar : mg "BadCalendar" = some (.ref c_BadCalendar)
  x_BadCalendar : OexC K c_BadCalendar
  xf_BadCalendar : XfC K c_BadCalendar
  xc_BadCalendar : ExcC K c_BadCalendar
  nx_BadCalendar_part : PySem.W.findIn K (.ref c_BadCalendar) "part" = some none
  fi_BadCalendar___init__ : PySem.W.findIn K (.ref c_BadCalendar) "__init__" = some (some (.ref f_BadCalendar___init__))
  isf_BadCalendar___init__ : PySem.W.isFn K (.ref f_BadCalendar___init__) = true
  F_BadCalendar___init__ : Fun K "__init__" "BadCalendar.__init__" s_BadCalendar___init__ f_BadCalendar___init__ d_BadCalendar___init__
  bd_BadCalendar___init__ : Binds K d_BadCalendar___init__ ["self", "part"] []
  ti_BadCalendar : PySem.W.typeIn K (.ref f_BadCalendar___init__) = some (.type "function")
  g_Stay : mg "Stay" = some (.ref c_Stay)
  cl_Stay : Cls K c_Stay
  own_Stay : OwnC K c_Stay
  na_Stay_first : NoAttr K c_Stay "first"
  na_Stay_after : NoAttr K c_Stay "after"
  na_Stay__nights : NoAttr K c_Stay "_nights"
  fi_Stay___init__ : PySem.W.findIn K (.ref c_Stay) "__init__" = some (some (.ref f_Stay___init__))
  isf_Stay___init__ : PySem.W.isFn K (.ref f_Stay___init__) = true
  F_Stay___init__ : Fun K "__init__" "Stay.__init__" s_Stay___init__ f_Stay___init__ d_Stay___init__
  bd_Stay___init__ : Binds K d_Stay___init__ ["self", "first", "after"] []
  g_Calendar : mg "Calendar" = some (.ref c_Calendar)
  cl_Calendar : Cls K c_Calendar
  own_Calendar : OwnC K c_Calendar
  na_Calendar_rooms : NoAttr K c_Calendar "rooms"
  na_Calendar_first : NoAttr K c_Calendar "first"
  na_Calendar_after : NoAttr K c_Calendar "after"
  na_Calendar__stays : NoAttr K c_Calendar "_stays"
  fi_Calendar___init__ : PySem.W.findIn K (.ref c_Calendar) "__init__" = some (some (.ref f_Calendar___init__))
  isf_Calendar___init__ : PySem.W.isFn K (.ref f_Calendar___init__) = true
  F_Calendar___init__ : Fun K "__init__" "Calendar.__init__" s_Calendar___init__ f_Calendar___init__ d_Calendar___init__
  bd_Calendar___init__ : Binds K d_Calendar___init__ ["self", "rooms", "first", "after"] []
  fi_Calendar___contains__ : PySem.W.findIn K (.ref c_Calendar) "__contains__" = some (some (.ref f_Calendar___contains__))
  isf_Calendar___contains__ : PySem.W.isFn K (.ref f_Calendar___contains__) = true
  F_Calendar___contains__ : Fun K "__contains__" "Calendar.__contains__" s_Calendar___contains__ f_Calendar___contains__ d_Calendar___contains__
  bd_Calendar___contains__ : Binds K d_Calendar___contains__ ["self", "x"] []
  fi_Calendar___len__ : PySem.W.findIn K (.ref c_Calendar) "__len__" = some (some (.ref f_Calendar___len__))
  isf_Calendar___len__ : PySem.W.isFn K (.ref f_Calendar___len__) = true
  F_Calendar___len__ : Fun K "__len__" "Calendar.__len__" s_Calendar___len__ f_Calendar___len__ d_Calendar___len__
  bd_Calendar___len__ : Binds K d_Calendar___len__ ["self"] []
  fi_Calendar___iter__ : PySem.W.findIn K (.ref c_Calendar) "__iter__" = some (some (.ref f_Calendar___iter__))
  isf_Calendar___iter__ : PySem.W.isFn K (.ref f_Calendar___iter__) = true
  F_Calendar___iter__ : Fun K "__iter__" "Calendar.__iter__" s_Calendar___iter__ f_Calendar___iter__ d_Calendar___iter__
  bd_Calendar___iter__ : Binds K d_Calendar___iter__ ["self"] []
  fi_Calendar___eq__ : PySem.W.findIn K (.ref c_Calendar) "__eq__" = some (some (.ref f_Calendar___eq__))
  isf_Calendar___eq__ : PySem.W.isFn K (.ref f_Calendar___eq__) = true
  F_Calendar___eq__ : Fun K "__eq__" "Calendar.__eq__" s_Calendar___eq__ f_Calendar___eq__ d_Calendar___eq__
  bd_Calendar___eq__ : Binds K d_Calendar___eq__ ["self", "other"] []
  fi_Calendar_guests : PySem.W.findIn K (.ref c_Calendar) "guests" = some (some (.ref f_Calendar_guests))
  isf_Calendar_guests : PySem.W.isFn K (.ref f_Calendar_guests) = true
  F_Calendar_guests : Fun K "guests" "Calendar.guests" s_Calendar_guests f_Calendar_guests d_Calendar_guests
  bd_Calendar_guests : Binds K d_Calendar_guests ["self"] []
  fi_Calendar_supply : PySem.W.findIn K (.ref c_Calendar) "supply" = some (some (.ref f_Calendar_supply))
  isf_Calendar_supply : PySem.W.isFn K (.ref f_Calendar_supply) = true
  F_Calendar_supply : Fun K "supply" "Calendar.supply" s_Calendar_supply f_Calendar_supply d_Calendar_supply
  bd_Calendar_supply : Binds K d_Calendar_supply ["self", "day"] []
  fi_Calendar_room_plan : PySem.W.findIn K (.ref c_Calendar) "room_plan" = some (some (.ref f_Calendar_room_plan))
  isf_Calendar_room_plan : PySem.W.isFn K (.ref f_Calendar_room_plan) = true
  F_Calendar_room_plan : Fun K "room_plan" "Calendar.room_plan" s_Calendar_room_plan f_Calendar_room_plan d_Calendar_room_plan
  bd_Calendar_room_plan : Binds K d_Calendar_room_plan ["self"] []
  fi_Calendar_with_rooms : PySem.W.findIn K (.ref c_Calendar) "with_rooms" = some (some (.ref f_Calendar_with_rooms))
  isf_Calendar_with_rooms : PySem.W.isFn K (.ref f_Calendar_with_rooms) = true
  F_Calendar_with_rooms : Fun K "with_rooms" "Calendar.with_rooms" s_Calendar_with_rooms f_Calendar_with_rooms d_Calendar_with_rooms
  bd_Calendar_with_rooms : Binds K d_Calendar_with_rooms ["self", "rooms"] []
  fi_Calendar_twin : PySem.W.findIn K (.ref c_Calendar) "twin" = some (some (.ref f_Calendar_twin))
  isf_Calendar_twin : PySem.W.isFn K (.ref f_Calendar_twin) = true
  F_Calendar_twin : Fun K "twin" "Calendar.twin" s_Calendar_twin f_Calendar_twin d_Calendar_twin
  bd_Calendar_twin : Binds K d_Calendar_twin ["self"] []
  F_Calendar_names : Fun K "names" "Calendar.names" s_Calendar_names f_Calendar_names d_Calendar_names
  bd_Calendar_names : Binds K d_Calendar_names ["self"] []
  pp_Calendar_names : PropOf K c_Calendar "names" p_Calendar_names f_Calendar_names
  F_Calendar_free_rooms : Fun K "free_rooms" "Calendar.free_rooms" s_Calendar_free_rooms f_Calendar_free_rooms d_Calendar_free_rooms
  bd_Calendar_free_rooms : Binds K d_Calendar_free_rooms ["self"] []
  pp_Calendar_free_rooms : PropOf K c_Calendar "free_rooms" p_Calendar_free_rooms f_Calendar_free_rooms
  g_parts_of : mg "parts_of" = some (.ref f_parts_of)
  F_parts_of : Fun K "parts_of" "parts_of" s_parts_of f_parts_of d_parts_of
  bd_parts_of : Binds K d_parts_of ["calendar"] []
  g_names_by_stays : mg "names_by_stays" = some (.ref f_names_by_stays)
  F_names_by_stays : Fun K "names_by_stays" "names_by_stays" s_names_by_stays f_names_by_stays d_names_by_stays
  bd_names_by_stays : Binds K d_names_by_stays ["calendar"] []
  exm_BadCalendar : PySem.W.exmOne K (.ref c_BadCalendar) (.ref c_StayError) = some true
  kit_BC : PySem.W.kitOne K (.ref c_BadCalendar) (.ref c_BadCalendar) = some true
  kit_BC_V : PySem.W.kitOne K (.ref c_BadCalendar) (.type "ValueError") = some true
  sb_Calendar_NoneType : PySem.W.subIn K (.ref c_Calendar) (.type "NoneType") = some false
  kit_NoneType_Calendar : PySem.W.kitOne K (.type "NoneType") (.ref c_Calendar) = some false
  sb_Calendar_bool : PySem.W.subIn K (.ref c_Calendar) (.type "bool") = some false
  kit_bool_Calendar : PySem.W.kitOne K (.type "bool") (.ref c_Calendar) = some false
  sb_Calendar_int : PySem.W.subIn K (.ref c_Calendar) (.type "int") = some false
  kit_int_Calendar : PySem.W.kitOne K (.type "int") (.ref c_Calendar) = some false
  sb_Calendar_str : PySem.W.subIn K (.ref c_Calendar) (.type "str") = some false
  kit_str_Calendar : PySem.W.kitOne K (.type "str") (.ref c_Calendar) = some false
  sb_Calendar_tuple : PySem.W.subIn K (.ref c_Calendar) (.type "tuple") = some false
  kit_tuple_Calendar : PySem.W.kitOne K (.type "tuple") (.ref c_Calendar) = some false
  sb_Calendar_list : PySem.W.subIn K (.ref c_Calendar) (.type "list") = some false
  kit_list_Calendar : PySem.W.kitOne K (.type "list") (.ref c_Calendar) = some false
  sb_Calendar_dict : PySem.W.subIn K (.ref c_Calendar) (.type "dict") = some false
  kit_dict_Calendar : PySem.W.kitOne K (.type "dict") (.ref c_Calendar) = some false
  si_Calendar_NoneType : PySem.W.subIn K (.type "NoneType") (.ref c_Calendar) = some false
  si_Calendar_tuple : PySem.W.subIn K (.type "tuple") (.ref c_Calendar) = some false
  si_Calendar_list : PySem.W.subIn K (.type "list") (.ref c_Calendar) = some false
  kit_Calendar : PySem.W.kitOne K (.ref c_Calendar) (.ref c_Calendar) = some true
  kit_Stay : PySem.W.kitOne K (.ref c_Stay) (.ref c_Calendar) = some false
  kit_Stay_int : PySem.W.kitOne K (.ref c_Stay) (.type "int") = some false
  si_Stay : PySem.W.subIn K (.type "int") (.ref c_Stay) = some false
  si_Calendar : PySem.W.subIn K (.type "int") (.ref c_Calendar) = some false
  g__law_pen : mg "_law_pen" = some (.ref f__law_pen)
  F__law_pen : Fun K "_law_pen" "_law_pen" s__law_pen f__law_pen d__law_pen
  bd__law_pen : Binds K d__law_pen ["script"] []
  g__law_draw : mg "_law_draw" = some (.ref f__law_draw)
  F__law_draw : Fun K "_law_draw" "_law_draw" s__law_draw f__law_draw d__law_draw
  bd__law_draw : Binds K d__law_draw ["pen", "many"] []
  g__law_pick : mg "_law_pick" = some (.ref f__law_pick)
  F__law_pick : Fun K "_law_pick" "_law_pick" s__law_pick f__law_pick d__law_pick
  bd__law_pick : Binds K d__law_pick ["pen", "some"] []
  g__law_heard : mg "_law_heard" = some (.ref f__law_heard)
  F__law_heard : Fun K "_law_heard" "_law_heard" s__law_heard f__law_heard d__law_heard
  bd__law_heard : Binds K d__law_heard ["ask"] []
  g__law_odd : mg "_law_odd" = some (.ref f__law_odd)
  F__law_odd : Fun K "_law_odd" "_law_odd" s__law_odd f__law_odd d__law_odd
  bd__law_odd : Binds K d__law_odd ["pen"] []
  g__law_is_day : mg "_law_is_day" = some (.ref f__law_is_day)
  F__law_is_day : Fun K "_law_is_day" "_law_is_day" s__law_is_day f__law_is_day d__law_is_day
  bd__law_is_day : Binds K d__law_is_day ["value"] []
  g__law_wrong : mg "_law_wrong" = some (.ref f__law_wrong)
  F__law_wrong : Fun K "_law_wrong" "_law_wrong" s__law_wrong f__law_wrong d__law_wrong
  bd__law_wrong : Binds K d__law_wrong ["number", "start", "goal"] []
  g__law_face_right : mg "_law_face_right" = some (.ref f__law_face_right)
  F__law_face_right : Fun K "_law_face_right" "_law_face_right" s__law_face_right f__law_face_right d__law_face_right
  bd__law_face_right : Binds K d__law_face_right ["made", "number", "start", "goal"] []
  g__law_unlike_right : mg "_law_unlike_right" = some (.ref f__law_unlike_right)
  F__law_unlike_right : Fun K "_law_unlike_right" "_law_unlike_right" s__law_unlike_right f__law_unlike_right d__law_unlike_right
  bd__law_unlike_right : Binds K d__law_unlike_right ["made", "number", "start", "goal"] []
  g_law : mg "law" = some (.ref f_law)
  F_law : Fun K "law" "law" s_law f_law d_law
  bd_law : Binds K d_law ["script"] []
  code_law : d_law.code = .ref cc_law
  b_isinstance : mg "isinstance" = none
  b_int : mg "int" = none
  b_bool : mg "bool" = none
  b_str : mg "str" = none
  b_len : mg "len" = none
  b_tuple : mg "tuple" = none
  b_range : mg "range" = none
  b_list : mg "list" = none
  b_dict : mg "dict" = none
  b_abs : mg "abs" = none
  b_iter : mg "iter" = none
  b_sorted : mg "sorted" = none
  b_enumerate : mg "enumerate" = none
  b_repr : mg "repr" = none
  b_ValueError : mg "ValueError" = none
  g_LAST_DAY : ∃ t, mg "LAST_DAY" = some (.int 999999999999 t)
  cr_Calendar : CRead K c_Calendar (.type "type")
  cv_Calendar_ROOMS : ∃ u, CVal K c_Calendar (.type "type") "ROOMS" (.int 12) u
  cv_Calendar_NIGHTS : ∃ u, CVal K c_Calendar (.type "type") "NIGHTS" (.int 40) u
  cv_Calendar_GUESTS : ∃ u, CVal K c_Calendar (.type "type") "GUESTS" (.int 100) u
  cr_Stay : CRead K c_Stay (.type "type")
  cv_Stay_MOST : ∃ u, CVal K c_Stay (.type "type") "MOST" (.int 400) u
  mk_Stay : Mk K c_Stay f_Stay___init__
  mk_Calendar : Mk K c_Calendar f_Calendar___init__
  me_Calendar_guests : Meth K c_Calendar "guests" f_Calendar_guests
  me_Calendar_supply : Meth K c_Calendar "supply" f_Calendar_supply
  me_Calendar_room_plan : Meth K c_Calendar "room_plan" f_Calendar_room_plan
  me_Calendar_with_rooms : Meth K c_Calendar "with_rooms" f_Calendar_with_rooms
  me_Calendar_twin : Meth K c_Calendar "twin" f_Calendar_twin
  eq_Calendar : EqM K c_Calendar f_Calendar___eq__
  sm_Calendar___contains__ : SpM K c_Calendar f_Calendar___contains__ "__contains__"
  sm_Calendar___len__ : SpM K c_Calendar f_Calendar___len__ "__len__"
  sm_Calendar___iter__ : SpM K c_Calendar f_Calendar___iter__ "__iter__"
end NN

open AW L2
-- what is known at an address
local macro_rules | `(tactic| walk_at "kn") => `(tactic| first
  | assumption
  | exact upd_same
  | ((with_reducible refine' keep2 ?h1 ?h2); (case h1 => first | assumption | (exact Ne.symm (by assumption))); (case h2 => walk_at "kn"))
  | ((with_reducible refine' know ?h1 ?h2); (case h1 => assumption); (case h2 => walk_at "kn"))
  | ((with_reducible refine' Ext.know ?h1 ?h2); (case h1 => assumption); (case h2 => walk_at "kn")))
-- one step
local macro_rules | `(tactic| walk_at "w1") => `(tactic| first
  | ((with_reducible refine' w_var ?hv ?_); (case hv => rfl))
  | with_reducible refine' w_c ?_
  | with_reducible refine' w_op ?_
  | with_reducible refine' r_I0 ?_
  | with_reducible refine' w_nil ?_
  | with_reducible refine' w_cons ?_
  | with_reducible refine' w_cb ?_
  | with_reducible refine' r_int1 ?_
  | with_reducible refine' r_int1b ?_
  | with_reducible refine' r_abs ?_
  | ((with_reducible refine' r_lenL ?h1 ?_); (case h1 => walk_at "kn"))
  | ((with_reducible refine' r_lenT ?h1 ?_); (case h1 => walk_at "kn"))
  | ((with_reducible refine' r_neV ?h1 ?_); (case h1 => rfl))
  | ((with_reducible refine' r_eqV ?h1 ?_); (case h1 => rfl))
  | ((with_reducible refine' r_eq ?h1 ?_); (case h1 => rfl))
  | ((with_reducible refine' r_ne ?h1 ?_); (case h1 => rfl))
  | ((with_reducible refine' r_ixL ?h1 ?h2 ?_); (case h1 => walk_at "kn"); (case h2 => rfl))
  | ((with_reducible refine' r_ixT ?h1 ?h2 ?_); (case h1 => walk_at "kn"); (case h2 => rfl))
  | with_reducible refine' w_test ?_
  | with_reducible refine' w_B ?_
  | with_reducible refine' w_un ?_
  | with_reducible refine' r_U ?_
  | with_reducible refine' w_and ?_
  | with_reducible refine' w_or ?_
  | with_reducible refine' w_not ?_
  | with_reducible refine' w_andV ?_
  | with_reducible refine' w_orV ?_
  | with_reducible refine' w_notV ?_
  | with_reducible refine' w_ifE ?_
  | with_reducible refine' r_isNt ?_
  | with_reducible refine' r_isNr ?_
  | with_reducible refine' w_chain ?_
  | with_reducible refine' w_tupRg ?_
  | with_reducible refine' w_joined ?_
  | with_reducible refine' w_js0 ?_
  | with_reducible refine' w_js ?_
  | with_reducible refine' w_cval ?_
  | with_reducible refine' s_fld ?_
  | with_reducible refine' w_tup ?_
  | with_reducible refine' w_lst ?_
  | with_reducible refine' w_sl ?_
  | with_reducible refine' w_part ?_
  | with_reducible refine' w_noPart ?_
  | with_reducible refine' s_seq ?_
  | with_reducible refine' s_next ?_
  | with_reducible refine' s_ret ?_
  | with_reducible refine' s_retN ?_
  | with_reducible refine' s_drop ?_
  | with_reducible refine' s_brk ?_
  | with_reducible refine' s_cont ?_
  | with_reducible refine' s_set ?_
  | with_reducible refine' s_asg ?_
  | with_reducible refine' s_par ?_
  | ((with_reducible refine' s_aug ?h1 ?_); (case h1 => rfl))
  | with_reducible refine' g_name ?_
  | with_reducible refine' g_cons ?_
  | with_reducible refine' g_nil ?_
  | with_reducible refine' g_set ?_
  | with_reducible refine' both_t ?_
  | with_reducible refine' both_f ?_
  | with_reducible refine' both_nt ?_
  | with_reducible refine' both_nf ?_
  | with_reducible refine' bor_t ?_
  | with_reducible refine' bor_f ?_
  | with_reducible refine' bor_nt ?_
  | with_reducible refine' bor_nf ?_
  | with_reducible refine' ⟨_, rfl, ?_⟩)
local macro_rules | `(tactic| walk_at "w") => `(tactic| repeat (first | walk_at "w1" | dsimp only))
local macro_rules | `(tactic| walk_at "if") => `(tactic| ((with_reducible refine' s_if ?_); walk_at "w"; refine ⟨fun hb => ?_, fun hb => ?_⟩))
local macro_rules | `(tactic| walk_at "wi") => `(tactic| repeat (first | walk_at "w1" | with_reducible refine' s_if ?_ | dsimp only))

namespace NN
open PySem PySem.Spec PyProof.Rows L2 LamX AW ClX
/-! ### promises -/
/-- a value that is no whole number -/
def Odd (K : PySem.W.Frag) (kn : Hp) (x : V) : Prop := ∃ t bi, TyX K kn x t ∧ PySem.W.kitOne K t (.type "int") = some bi ∧ (bi = true → PySem.W.kitOne K t (.type "bool") = some true)
def bWhole (K : PySem.W.Frag) : List V → Hp → AK → AXK → Prop := fun vs kn Q _ => ∃ x, vs = [x] ∧ ((∃ i, x = .int i ∧ Q (.bl true) kn) ∨ (Odd K kn x ∧ Q (.bl false) kn))
def bFrom (K : PySem.W.Frag) : List V → Hp → AK → AXK → Prop := fun vs kn Q _ => ∃ x lo hi, vs = [x, .int lo, .int hi] ∧ ((∃ i, x = .int i ∧ Q (.bl (decide (lo ≤ i) && decide (i ≤ hi))) kn) ∨ (Odd K kn x ∧ Q (.bl false) kn))
abbrev lastDay : Int := 999999999999
def bDay (K : PySem.W.Frag) : List V → Hp → AK → AXK → Prop := fun vs kn Q _ => ∃ x, vs = [x] ∧ ((∃ i, x = .int i ∧ Q (.bl (decide (-lastDay ≤ i) && decide (i ≤ lastDay))) kn) ∨ (Odd K kn x ∧ Q (.bl false) kn))
section
variable {K : PySem.W.Frag}
theorem mo_whole : MonoX (bWhole K) := by
  rintro vs kn Q R E F h1 h2 ⟨x, e, ⟨i, e2, h⟩ | ⟨o, h⟩⟩
  · exact ⟨x, e, .inl ⟨i, e2, h1 _ _ h⟩⟩
  · exact ⟨x, e, .inr ⟨o, h1 _ _ h⟩⟩
theorem mo_from : MonoX (bFrom K) := by
  rintro vs kn Q R E F h1 h2 ⟨x, lo, hi, e, ⟨i, e2, h⟩ | ⟨o, h⟩⟩
  · exact ⟨x, lo, hi, e, .inl ⟨i, e2, h1 _ _ h⟩⟩
  · exact ⟨x, lo, hi, e, .inr ⟨o, h1 _ _ h⟩⟩
theorem mo_day : MonoX (bDay K) := by
  rintro vs kn Q R E F h1 h2 ⟨x, e, ⟨i, e2, h⟩ | ⟨o, h⟩⟩
  · exact ⟨x, e, .inl ⟨i, e2, h1 _ _ h⟩⟩
  · exact ⟨x, e, .inr ⟨o, h1 _ _ h⟩⟩
theorem odd_ext {kn kn' : Hp} {x : V} (e : Ext kn kn') (h : Odd K kn x) : Odd K kn' x := by
  obtain ⟨t, bi, a, b, d⟩ := h
  exact ⟨t, bi, tyx_ext e a, b, d⟩
end
section
variable {P : Program} {w : World} {K : PySem.W.Frag} {mg : Str → Option Value} {base : Heap}
theorem ok_is_whole (T : Tx K mg) : FnOk P w K mg base CX0 1 T.f_is_whole T.d_is_whole ["value"] (liftX (bWhole K)) := by
  refine T.F_is_whole.ok sc_is_whole (fun vs H Q E h => ?_) (fun cdv A outer s H vs Q E hr h => ?_)
  · obtain ⟨kn, _, _, x, rfl, _⟩ := h
    rfl
  · obtain ⟨kn, e, nt, x, rfl, h⟩ := h
    refine ⟨_, (pss_one (ps_ret (pe_and (pe_callB call_isi (by rfl) T.b_isinstance (by decide +kernel) (pa_cons (pv 0) (pa_cons (pe_bltn (v := .ty "int") (u := .type "int") (by rfl) T.b_int (by decide +kernel) rfl) pa_nil))) (pe_one (pe_not (pe_callB call_isi (by rfl) T.b_isinstance (by decide +kernel) (pa_cons (pv 0) (pa_cons (pe_bltn (v := .ty "bool") (u := .type "bool") (by rfl) T.b_bool (by decide +kernel) rfl) pa_nil)))))))), ?_⟩
    refine body_of (pure_start e nt) ?_
    walk_at "wi"
    rcases h with ⟨i, rfl, h⟩ | ⟨⟨t, bi, ty, e1, e2⟩, h⟩
    · refine r_isi (.ty _) (.base (.int i)) (kit_ty rfl) ?_
      walk_at "wi"
      refine r_isi (.ty _) (.base (.int i)) (kit_ty rfl) ?_
      walk_at "wi"
      exact h 0
    · refine r_isi (.ty _) ty e1 ?_
      walk_at "wi"
      refine ⟨fun hb => ?_, fun hb => h 0⟩
      walk_at "wi"
      refine r_isi (.ty _) ty (e2 hb) ?_
      walk_at "wi"
      exact h 0
theorem ok_is_from (T : Tx K mg) : FnOk P w K mg base CX0 2 T.f_is_from T.d_is_from ["value", "least", "most"] (liftX (bFrom K)) := by
  refine T.F_is_from.ok sc_is_from (fun vs H Q E h => ?_) (fun cdv A outer s H vs Q E hr h => ?_)
  · obtain ⟨kn, _, _, x, lo, hi, rfl, _⟩ := h
    rfl
  · obtain ⟨kn, e, nt, x, lo, hi, rfl, h⟩ := h
    refine ⟨_, (pss_one (ps_ret (pe_and (pe_call (ok_is_whole T) (hr.mono (by decide)) (by rfl) T.g_is_whole T.F_is_whole.kp T.bd_is_whole .nil pass0 (pa_cons (pv 0) pa_nil)) (pe_one (pe_chain op_le op_le (pv 1) (pv 0) (pv 2)))))), ?_⟩
    refine body_of (pure_start e nt) ?_
    walk_at "wi"
    refine w_call mo_whole err_no ?_
    walk_at "wi"
    refine ⟨_, rfl, ?_⟩
    rcases h with ⟨i, rfl, h⟩ | ⟨o, h⟩
    · refine .inl ⟨i, rfl, ?_⟩
      walk_at "wi"
      refine ⟨fun hb => ?_, fun hb => ?_⟩
      · walk_at "wi"
        rw [hb] at h
        exact h 0
      · rw [hb] at h
        exact h 0
    · refine .inr ⟨o, ?_⟩
      walk_at "wi"
      exact h 0
theorem ok_is_day (T : Tx K mg) : FnOk P w K mg base CX0 3 T.f_is_day T.d_is_day ["value"] (liftX (bDay K)) := by
  refine T.F_is_day.ok sc_is_day (fun vs H Q E h => ?_) (fun cdv A outer s H vs Q E hr h => ?_)
  · obtain ⟨kn, _, _, x, rfl, _⟩ := h
    rfl
  · obtain ⟨kn, e, nt, x, rfl, h⟩ := h
    refine ⟨_, (pss_one (ps_ret (pe_call (ok_is_from T) (hr.mono (by decide)) (by rfl) T.g_is_from T.F_is_from.kp T.bd_is_from .nil pass0 (pa_cons (pv 0) (pa_cons (pe_un un_neg (pe_glob (v := .int 999999999999) (by rfl) (Classical.choose_spec T.g_LAST_DAY) ⟨_, rfl⟩)) (pa_cons (pe_glob (v := .int 999999999999) (by rfl) (Classical.choose_spec T.g_LAST_DAY) ⟨_, rfl⟩) pa_nil)))))), ?_⟩
    refine body_of (pure_start e nt) ?_
    walk_at "wi"
    refine w_call mo_from err_no ?_
    walk_at "wi"
    refine ⟨_, _, _, rfl, ?_⟩
    rcases h with ⟨i, rfl, h⟩ | ⟨o, h⟩
    · exact .inl ⟨i, rfl, h 0⟩
    · exact .inr ⟨o, h 0⟩
end

end NN

namespace NN
open PySem PySem.Spec PyProof.Rows L2 LamX AW ClX
/-! ### the calendar -/
theorem ext_new {kn : Hp} {q : Addr} {o : HO} (h : kn q = none) : Ext kn (upd kn q o) := fun x u e => know h e
theorem ext_tr {a b c : Hp} (h : Ext a b) (k : Ext b c) : Ext a c := fun x o e => k x o (h x o e)
theorem ext_rf {a : Hp} : Ext a a := fun _ _ h => h
theorem free_ext {kn kn' : Hp} {q : Addr} (x : Ext kn kn') (h : kn' q = none) : kn q = none := by
  cases z : kn q with
  | none => rfl
  | some o => rw [x _ _ z] at h; cases h
def isDay (i : Int) : Prop := -lastDay ≤ i ∧ i ≤ lastDay
def isRm (i : Int) : Prop := 1 ≤ i ∧ i ≤ 12
def NotDay (K : PySem.W.Frag) (kn : Hp) (x : V) : Prop := (∃ i, x = .int i ∧ ¬ isDay i) ∨ Odd K kn x
def NotRm (K : PySem.W.Frag) (kn : Hp) (x : V) : Prop := (∃ i, x = .int i ∧ ¬ isRm i) ∨ Odd K kn x
abbrev calF (r f e : Int) (d : Addr) : List (Str × V) := [("rooms", .int r), ("first", .int f), ("after", .int e), ("_stays", .ref d)]
/-- a calendar without guests -/
structure CalAt (C : Addr) (kn : Hp) (s : Addr) (r f e : Int) : Prop where
  at_ : ∃ dx d, kn s = some (.ins C dx (calF r f e d)) ∧ kn d = some (.dK [])
  rm : isRm r
  d1 : isDay f
  d2 : isDay e
  lt : f < e
  most : e ≤ f + 40
theorem CalAt.ext {C : Addr} {kn kn' : Hp} {s : Addr} {r f e : Int} (x : Ext kn kn') (h : CalAt C kn s r f e) : CalAt C kn' s r f e := by
  obtain ⟨⟨dx, d, a, b⟩, c0, c1, c2, c3, c4⟩ := h
  exact ⟨⟨dx, d, x _ _ a, x _ _ b⟩, c0, c1, c2, c3, c4⟩
abbrev xdPart (kn : Hp) (d : Addr) (p : Str) : Hp := upd kn d (.xd [("part", .str p)])
def bCal (K : PySem.W.Frag) (C B : Addr) : List V → Hp → AK → AXK → Prop := fun vs kn Q E => ∃ a dx x y z, vs = [.ref a, x, y, z] ∧ kn a = some (.ins C dx []) ∧
  ((∃ r f e, x = .int r ∧ y = .int f ∧ z = .int e ∧ isRm r ∧ isDay f ∧ isDay e ∧ f < e ∧ e ≤ f + 40 ∧ ∀ d, kn d = none → Q .non (upd (upd kn d (.dK [])) a (.ins C dx (calF r f e d)))) ∨
   (NotRm K kn x ∧ ∀ d, kn d = none → E (.ref B) (some d) (xdPart kn d "rooms")) ∨
   (∃ r, x = .int r ∧ isRm r ∧ NotDay K kn y ∧ ∀ d, kn d = none → E (.ref B) (some d) (xdPart kn d "first")) ∨
   (∃ r f, x = .int r ∧ isRm r ∧ y = .int f ∧ isDay f ∧ (NotDay K kn z ∨ ∃ e, z = .int e ∧ isDay e ∧ ¬(f < e ∧ e ≤ f + 40)) ∧ ∀ d, kn d = none → E (.ref B) (some d) (xdPart kn d "after")))
section
variable {K : PySem.W.Frag} {C B : Addr}
theorem mo_cal : MonoX (bCal K C B) := by
  rintro vs kn Q R E F h1 h2 ⟨a, dx, x, y, z, e, ha, ⟨r, f, e', b1, b2, b3, b4, b5, b6, b7, b8, h⟩ | ⟨b, h⟩ | ⟨r, b1, b2, b3, h⟩ | ⟨r, f, b1, b2, b3, b4, b5, h⟩⟩
  · exact ⟨a, dx, x, y, z, e, ha, .inl ⟨r, f, e', b1, b2, b3, b4, b5, b6, b7, b8, fun q hq => h1 _ _ (h q hq)⟩⟩
  · exact ⟨a, dx, x, y, z, e, ha, .inr (.inl ⟨b, fun d hd => h2 _ _ _ (h d hd)⟩)⟩
  · exact ⟨a, dx, x, y, z, e, ha, .inr (.inr (.inl ⟨r, b1, b2, b3, fun d hd => h2 _ _ _ (h d hd)⟩))⟩
  · exact ⟨a, dx, x, y, z, e, ha, .inr (.inr (.inr ⟨r, f, b1, b2, b3, b4, b5, fun d hd => h2 _ _ _ (h d hd)⟩))⟩
theorem upd4 {kn : Hp} {a q : Addr} {o1 o2 o3 o4 u : HO} : upd (upd (upd (upd (upd kn a o1) a o2) a o3) q u) a o4 = upd (upd kn q u) a o4 := by
  funext x
  by_cases h1 : x = a
  · rw [h1, upd_same, upd_same]
  · rw [upd_ne h1, upd_ne h1]
    by_cases h2 : x = q
    · rw [h2, upd_same, upd_same]
    · rw [upd_ne h2, upd_ne h1, upd_ne h1, upd_ne h1, upd_ne h2]
end
section
variable {P : Program} {w : World} {K : PySem.W.Frag} {mg : Str → Option Value} {base : Heap}
theorem ok_BadCalendar___init__ (T : Tx K mg) : FnOk P w K mg base CX0 1 T.f_BadCalendar___init__ T.d_BadCalendar___init__ ["self", "part"] (spX1 K "part") := by
  refine T.F_BadCalendar___init__.ok sc_BadCalendar___init__ (fun vs H Q E h => ?_) (fun cdv A outer s H vs Q E hr h => ?_)
  · obtain ⟨a, C, y, rfl, _⟩ := h
    rfl
  · obtain ⟨a, C, y, rfl, oc, hf, ha, h⟩ := h
    refine ⟨_, (pss_one (ps_ost (pv 0) (pv 1))), ?_⟩
    refine ⟨_, rfl, _, rfl, a, C, rfl, oc, hf, .inl ⟨ha, h⟩⟩
theorem dec_and {p q : Prop} [Decidable p] [Decidable q] (h : ¬(p ∧ q)) : (decide p && decide q) = false := by
  cases y : (decide p && decide q) with
  | false => rfl
  | true =>
    rw [Bool.and_eq_true] at y
    exact absurd ⟨of_decide_eq_true y.1, of_decide_eq_true y.2⟩ h
theorem w_day {kn : Hp} {x : V} {Q : AK} {E : AXK} (h : (∃ i, x = .int i ∧ isDay i ∧ Q (.bl true) kn) ∨ (NotDay K kn x ∧ Q (.bl false) kn)) : bDay K [x] kn Q E := by
  rcases h with ⟨i, e, d, q⟩ | ⟨⟨i, e, d⟩ | o, q⟩
  · refine ⟨x, rfl, .inl ⟨i, e, ?_⟩⟩
    rw [decide_eq_true d.1, decide_eq_true d.2]
    exact q
  · refine ⟨x, rfl, .inl ⟨i, e, ?_⟩⟩
    have z : (decide (-lastDay ≤ i) && decide (i ≤ lastDay)) = false := dec_and d
    rw [z]
    exact q
  · exact ⟨x, rfl, .inr ⟨o, q⟩⟩
theorem w_rm {kn : Hp} {x : V} {Q : AK} {E : AXK} (h : (∃ i, x = .int i ∧ isRm i ∧ Q (.bl true) kn) ∨ (NotRm K kn x ∧ Q (.bl false) kn)) : bFrom K [x, .int 1, .int 12] kn Q E := by
  rcases h with ⟨i, e, d, q⟩ | ⟨⟨i, e, d⟩ | o, q⟩
  · refine ⟨x, 1, 12, rfl, .inl ⟨i, e, ?_⟩⟩
    rw [decide_eq_true d.1, decide_eq_true d.2]
    exact q
  · refine ⟨x, 1, 12, rfl, .inl ⟨i, e, ?_⟩⟩
    have z : (decide ((1 : Int) ≤ i) && decide (i ≤ 12)) = false := dec_and d
    rw [z]
    exact q
  · exact ⟨x, 1, 12, rfl, .inr ⟨o, q⟩⟩
theorem ok_Calendar___init__ (T : Tx K mg) : FnOk P w K mg base (L2.CX P w) 4 T.f_Calendar___init__ T.d_Calendar___init__ ["self", "rooms", "first", "after"] (liftX (bCal K T.c_Calendar T.c_BadCalendar)) := by
  refine T.F_Calendar___init__.okX sc_Calendar___init__ (fun vs H Q E h => ?_) (fun cdv A outer s H vs Q E hr h => ?_)
  · obtain ⟨kn, _, _, a, dx, x, y, z, rfl, _⟩ := h
    rfl
  · obtain ⟨kn, ex, nt, a, dx, x, y, z, rfl, ha, h⟩ := h
    refine ⟨_, (pss_cons (ps_if (pt_not (pt_val (pe_call (ok_is_from T) (hr.mono (by decide)) (by rfl) T.g_is_from T.F_is_from.kp T.bd_is_from .nil pass0 (pa_cons (pv 1) (pa_cons pe_int (pa_cons (pe_cval (pe_glob (v := .ref T.c_Calendar) (by rfl) T.g_Calendar rfl)) pa_nil))))))
       (pss_one (ps_raise rfl (takes_of rfl rfl rfl rfl) (pmk_oex T.x_BadCalendar T.fi_BadCalendar___init__ T.ti_BadCalendar (ok_BadCalendar___init__ T) (hr.mono (by decide)) T.bd_BadCalendar___init__ .nil pass0 (by rfl) T.g_BadCalendar (pa_cons pe_str pa_nil))))
       pss_nil)
       (pss_cons (ps_if (pt_not (pt_val (pe_call (ok_is_day T) (hr.mono (by decide)) (by rfl) T.g_is_day T.F_is_day.kp T.bd_is_day .nil pass0 (pa_cons (pv 2) pa_nil))))
       (pss_one (ps_raise rfl (takes_of rfl rfl rfl rfl) (pmk_oex T.x_BadCalendar T.fi_BadCalendar___init__ T.ti_BadCalendar (ok_BadCalendar___init__ T) (hr.mono (by decide)) T.bd_BadCalendar___init__ .nil pass0 (by rfl) T.g_BadCalendar (pa_cons pe_str pa_nil))))
       pss_nil)
       (pss_cons (ps_if (PW.pt (pw_or (pt_not (pt_val (pe_call (ok_is_day T) (hr.mono (by decide)) (by rfl) T.g_is_day T.F_is_day.kp T.bd_is_day .nil pass0 (pa_cons (pv 3) pa_nil)))) (pw_or1 (pt_not (pt_chain op_lt op_le (pv 2) (pv 3) (pe_op op_add (pv 2) (pe_cval (pe_glob (v := .ref T.c_Calendar) (by rfl) T.g_Calendar rfl))))))))
       (pss_one (ps_raise rfl (takes_of rfl rfl rfl rfl) (pmk_oex T.x_BadCalendar T.fi_BadCalendar___init__ T.ti_BadCalendar (ok_BadCalendar___init__ T) (hr.mono (by decide)) T.bd_BadCalendar___init__ .nil pass0 (by rfl) T.g_BadCalendar (pa_cons pe_str pa_nil))))
       pss_nil)
       (pss_cons (ps_fld (pv 0) (pv 1) rfl)
       (pss_cons (ps_fld (pv 0) (pv 2) rfl)
       (pss_cons (ps_fld (pv 0) (pv 3) rfl)
       (pss_one (ps_fld (pv 0) pe_dnewK rfl)))))))), ?_⟩
    obtain ⟨mu, hmu⟩ := T.cv_Calendar_NIGHTS
    obtain ⟨ru, hru⟩ := T.cv_Calendar_ROOMS
    refine body_of (pure_start ex nt) ?_
    walk_at "wi"
    refine w_call mo_from err_no ?_
    walk_at "wi"
    refine ⟨_, _, _, _, rfl, T.cr_Calendar, hru, ?_⟩
    walk_at "wi"
    refine w_rm ?_
    rcases h with ⟨r, f, e, rfl, rfl, rfl, hr1, df, de, l1, l2, h⟩ | ⟨nd, h⟩ | ⟨r, rfl, hr1, nd, h⟩ | ⟨r, f, rfl, hr1, rfl, df, nd, h⟩
    · refine .inl ⟨r, rfl, hr1, ?_⟩
      walk_at "wi"
      refine w_call mo_day err_no ?_
      walk_at "wi"
      refine w_day (.inl ⟨f, rfl, df, ?_⟩)
      walk_at "wi"
      refine w_call mo_day err_no ?_
      walk_at "wi"
      refine w_day (.inl ⟨e, rfl, de, ?_⟩)
      walk_at "wi"
      refine ⟨fun hb => ?_, fun hb => absurd (decide_eq_true l1) (by rw [hb]; exact Bool.false_ne_true)⟩
      walk_at "wi"
      refine ⟨_, _, _, _, rfl, T.cr_Calendar, hmu, ?_⟩
      walk_at "wi"
      rw [decide_eq_true l2]
      walk_at "wi"
      refine ⟨_, _, _, _, rfl, ha, T.cl_Calendar, T.na_Calendar_rooms, by decide, ?_⟩
      walk_at "wi"
      refine ⟨_, _, _, _, rfl, upd_same, T.cl_Calendar, T.na_Calendar_first, (show 1 < 1000 by decide), ?_⟩
      walk_at "wi"
      refine ⟨_, _, _, _, rfl, upd_same, T.cl_Calendar, T.na_Calendar_after, (show 2 < 1000 by decide), ?_⟩
      walk_at "wi"
      refine w_dnew fun q hq => ?_
      walk_at "wi"
      refine ⟨_, _, _, _, rfl, keep2 (ne_of_none upd_same hq) upd_same, T.cl_Calendar, T.na_Calendar__stays, (show 3 < 1000 by decide), ?_⟩
      have hq2 : kn q = none := by
        by_cases z : q = a
        · rw [z, upd_same] at hq; cases hq
        · rw [upd_ne z, upd_ne z, upd_ne z] at hq; exact hq
      rw [upd4]
      exact h q hq2 0
    · refine .inr ⟨nd, ?_⟩
      walk_at "wi"
      refine s_raise1 T.x_BadCalendar T.nx_BadCalendar_part err_body ?_
      walk_at "wi"
      exact fun d hd => h d hd 0
    · refine .inl ⟨r, rfl, hr1, ?_⟩
      walk_at "wi"
      refine w_call mo_day err_no ?_
      walk_at "wi"
      refine w_day (.inr ⟨nd, ?_⟩)
      walk_at "wi"
      refine s_raise1 T.x_BadCalendar T.nx_BadCalendar_part err_body ?_
      walk_at "wi"
      exact fun d hd => h d hd 0
    · refine .inl ⟨r, rfl, hr1, ?_⟩
      walk_at "wi"
      refine w_call mo_day err_no ?_
      walk_at "wi"
      refine w_day (.inl ⟨f, rfl, df, ?_⟩)
      walk_at "wi"
      refine w_call mo_day err_no ?_
      walk_at "wi"
      refine w_day ?_
      rcases nd with nd | ⟨e, rfl, de, ne⟩
      · refine .inr ⟨nd, ?_⟩
        walk_at "wi"
        refine s_raise1 T.x_BadCalendar T.nx_BadCalendar_part err_body ?_
        walk_at "wi"
        exact fun d hd => h d hd 0
      · refine .inl ⟨e, rfl, de, ?_⟩
        walk_at "wi"
        refine ⟨fun hb => ?_, fun hb => ?_⟩
        · walk_at "wi"
          refine ⟨_, _, _, _, rfl, T.cr_Calendar, hmu, ?_⟩
          walk_at "wi"
          rw [decide_eq_false (fun z => ne ⟨of_decide_eq_true hb, z⟩)]
          walk_at "wi"
          refine s_raise1 T.x_BadCalendar T.nx_BadCalendar_part err_body ?_
          walk_at "wi"
          exact fun d hd => h d hd 0
        · walk_at "wi"
          refine s_raise1 T.x_BadCalendar T.nx_BadCalendar_part err_body ?_
          walk_at "wi"
          exact fun d hd => h d hd 0
end

/-! ### Calendar(x, y, z) -/
abbrev NewC (C : Addr) (kn : Hp) (r f e : Int) (Q : AK) : Prop := ∀ x kn', Ext kn kn' → kn x = none → CalAt C kn' x r f e → Q (.ref x) kn'
abbrev BadC (B : Addr) (kn : Hp) (p : Str) (E : AXK) : Prop := ∀ d kn', Ext kn kn' → kn d = none → kn' d = some (.xd [("part", .str p)]) → E (.ref B) (some d) kn'
def MakeC (K : PySem.W.Frag) (C B : Addr) (kn : Hp) (x y z : V) (Q : AK) (E : AXK) : Prop :=
  (∃ r f e, x = .int r ∧ y = .int f ∧ z = .int e ∧ isRm r ∧ isDay f ∧ isDay e ∧ f < e ∧ e ≤ f + 40 ∧ NewC C kn r f e Q) ∨ (NotRm K kn x ∧ BadC B kn "rooms" E) ∨
  (∃ r, x = .int r ∧ isRm r ∧ NotDay K kn y ∧ BadC B kn "first" E) ∨
  (∃ r f, x = .int r ∧ isRm r ∧ y = .int f ∧ isDay f ∧ (NotDay K kn z ∨ ∃ e, z = .int e ∧ isDay e ∧ ¬(f < e ∧ e ≤ f + 40)) ∧ BadC B kn "after" E)
theorem day_ext {K : PySem.W.Frag} {kn kn' : Hp} {x : V} (e : Ext kn kn') (h : NotDay K kn x) : NotDay K kn' x := h.imp id fun o => odd_ext e o
theorem rm_ext {K : PySem.W.Frag} {kn kn' : Hp} {x : V} (e : Ext kn kn') (h : NotRm K kn x) : NotRm K kn' x := h.imp id fun o => odd_ext e o
theorem w_cal {K : PySem.W.Frag} {c : Cw} {kn : Hp} {n : Nat} {σ : L2.St} {Q : V → Hp → Nat → Prop} {E : XK} {EA : EAK} {C B : Addr} {t : TA} (hE : ErrOk c EA E)
    (h : W c (t σ) kn n fun vs kn1 n1 => ∃ x y z, vs = [x, y, z] ∧ MakeC K C B kn1 x y z (fun v k => Q v k n1) (fun cls d k => EA cls d k n1)) : W c (tMake C (liftX (bCal K C B)) [] E t σ) kn n Q := by
  refine w_make mo_cal hE (h.mono fun vs kn1 n1 hv => ?_)
  obtain ⟨vx, vy, vz, rfl, hv⟩ := hv
  intro x dx hx hdx hne
  have hx2 : upd kn1 dx (.own x) x = none := by rw [upd_ne (Ne.symm hne)]; exact hx
  have ex : Ext kn1 (upd (upd kn1 dx (.own x)) x (.ins C dx [])) := ext_tr (ext_new hdx) (ext_new hx2)
  have old : ∀ {d}, upd (upd kn1 dx (.own x)) x (.ins C dx []) d = none → kn1 d = none := fun {d} hd => free_ext ex hd
  refine ⟨x, dx, _, _, _, rfl, upd_same, ?_⟩
  rcases hv with ⟨r, f, e, rfl, rfl, rfl, b1, b2, b3, b4, b5, h⟩ | ⟨b, h⟩ | ⟨r, rfl, b1, b2, h⟩ | ⟨r, f, rfl, b1, rfl, b2, b3, h⟩
  · refine .inl ⟨r, f, e, rfl, rfl, rfl, b1, b2, b3, b4, b5, fun q hq => ⟨rfl, h x _ ?_ hx ⟨⟨dx, q, upd_same, ?_⟩, b1, b2, b3, b4, b5⟩⟩⟩
    · intro y o hy
      have y1 : y ≠ x := fun z => by rw [z, hx] at hy; cases hy
      have y2 : y ≠ dx := fun z => by rw [z, hdx] at hy; cases hy
      have y3 : y ≠ q := fun z => by rw [← z, upd_ne y1, upd_ne y2, hy] at hq; cases hq
      rw [upd_ne y1, upd_ne y3, upd_ne y1, upd_ne y2]
      exact hy
    · have y1 : q ≠ x := fun z => by rw [z, upd_same] at hq; cases hq
      rw [upd_ne y1, upd_same]
  · exact .inr (.inl ⟨rm_ext ex b, fun d hd => h d _ (ext_tr ex (ext_new hd)) (old hd) upd_same⟩)
  · exact .inr (.inr (.inl ⟨r, rfl, b1, day_ext ex b2, fun d hd => h d _ (ext_tr ex (ext_new hd)) (old hd) upd_same⟩))
  · exact .inr (.inr (.inr ⟨r, f, rfl, b1, rfl, b2, b3.imp (fun q => day_ext ex q) id, fun d hd => h d _ (ext_tr ex (ext_new hd)) (old hd) upd_same⟩))
/-! self.rooms, self.first, self.after, self._stays -/
section
variable {K : PySem.W.Frag} {c : Cw} {kn : Hp} {n i : Nat} {σ : L2.St} {Q : V → Hp → Nat → Prop} {C s : Addr} {r f e : Int}
theorem w_rooms (cl : Cls K C) (na : NoAttr K C "rooms") (hv : σ[i]? = some (some (.ref s))) (h : CalAt C kn s r f e) (q : Q (.int r) kn n) : W c (tFld K (tVar i) "rooms" σ) kn n Q := by
  obtain ⟨⟨dx, p, a, b⟩, _⟩ := h
  exact w_fld (w_var hv ⟨_, _, _, _, _, rfl, a, cl, na, rfl, q⟩)
theorem w_first (cl : Cls K C) (na : NoAttr K C "first") (hv : σ[i]? = some (some (.ref s))) (h : CalAt C kn s r f e) (q : Q (.int f) kn n) : W c (tFld K (tVar i) "first" σ) kn n Q := by
  obtain ⟨⟨dx, p, a, b⟩, _⟩ := h
  exact w_fld (w_var hv ⟨_, _, _, _, _, rfl, a, cl, na, rfl, q⟩)
theorem w_after (cl : Cls K C) (na : NoAttr K C "after") (hv : σ[i]? = some (some (.ref s))) (h : CalAt C kn s r f e) (q : Q (.int e) kn n) : W c (tFld K (tVar i) "after" σ) kn n Q := by
  obtain ⟨⟨dx, p, a, b⟩, _⟩ := h
  exact w_fld (w_var hv ⟨_, _, _, _, _, rfl, a, cl, na, rfl, q⟩)
theorem w_stays (cl : Cls K C) (na : NoAttr K C "_stays") (hv : σ[i]? = some (some (.ref s))) (h : CalAt C kn s r f e) (q : ∀ d, kn d = some (.dK []) → Q (.ref d) kn n) : W c (tFld K (tVar i) "_stays" σ) kn n Q := by
  obtain ⟨⟨dx, p, a, b⟩, _⟩ := h
  exact w_fld (w_var hv ⟨_, _, _, _, _, rfl, a, cl, na, rfl, q p b⟩)
end

end NN

namespace NN
open PySem PySem.Spec PyProof.Rows L2 LamX AW ClX
/-! ### what an empty calendar tells -/
def bNames (C : Addr) : List V → Hp → AK → AXK → Prop := fun vs kn Q _ => ∃ s r f e, vs = [.ref s] ∧ CalAt C kn s r f e ∧ ∀ p, kn p = none → Q (.ref p) (upd kn p (.tup []))
def bLenC (C : Addr) : List V → Hp → AK → AXK → Prop := fun vs kn Q _ => ∃ s r f e, vs = [.ref s] ∧ CalAt C kn s r f e ∧ Q (.int 0) kn
def bParts (C : Addr) : List V → Hp → AK → AXK → Prop := fun vs kn Q _ => ∃ s r f e, vs = [.ref s] ∧ CalAt C kn s r f e ∧ ∀ p, kn p = none → Q (.ref p) (upd kn p (.tup [.int r, .int f, .int e]))
def bFree (C : Addr) : List V → Hp → AK → AXK → Prop := fun vs kn Q _ => ∃ s r f e, vs = [.ref s] ∧ CalAt C kn s r f e ∧ ∀ p k', Ext kn k' → kn p = none → k' p = some (.tup (List.replicate (e - f).toNat (.int r))) → Q (.ref p) k'
section
variable {C : Addr}
theorem mo_names : MonoX (bNames C) := by
  rintro vs kn Q R E F h1 h2 ⟨s, r, f, e, a, b, h⟩
  exact ⟨s, r, f, e, a, b, fun p hp => h1 _ _ (h p hp)⟩
theorem mo_lenC : MonoX (bLenC C) := by
  rintro vs kn Q R E F h1 h2 ⟨s, r, f, e, a, b, h⟩
  exact ⟨s, r, f, e, a, b, h1 _ _ h⟩
theorem mo_parts : MonoX (bParts C) := by
  rintro vs kn Q R E F h1 h2 ⟨s, r, f, e, a, b, h⟩
  exact ⟨s, r, f, e, a, b, fun p hp => h1 _ _ (h p hp)⟩
theorem mo_free : MonoX (bFree C) := by
  rintro vs kn Q R E F h1 h2 ⟨s, r, f, e, a, b, h⟩
  exact ⟨s, r, f, e, a, b, fun p k x y z => h1 _ _ (h p k x y z)⟩
end
section
variable {P : Program} {w : World} {K : PySem.W.Frag} {mg : Str → Option Value} {base : Heap}
theorem ok_Calendar_names (T : Tx K mg) : FnOk P w K mg base CX0 1 T.f_Calendar_names T.d_Calendar_names ["self"] (liftX (bNames T.c_Calendar)) := by
  refine T.F_Calendar_names.ok sc_Calendar_names (fun vs H Q E h => ?_) (fun cdv A outer s H vs Q E hr h => ?_)
  · obtain ⟨kn, _, _, a, r, f, e, rfl, _⟩ := h
    rfl
  · obtain ⟨kn, ex, nt, a, r, f, e, rfl, st, h⟩ := h
    refine ⟨_, (pss_one (ps_ret (pe_callTy (call_tup_dK rfl) (by rfl) T.b_tuple (by decide +kernel) (pa_cons (pe_fld (pv 0) rfl) pa_nil)))), ?_⟩
    refine body_of (pure_start ex nt) ?_
    exact s_ret (w_cb (w_cons (w_stays T.cl_Calendar T.na_Calendar__stays rfl st fun d hd => w_nil (r_tupD hd fun p hp => h p hp 0))))
theorem ok_Calendar___len__ (T : Tx K mg) : FnOk P w K mg base CX0 1 T.f_Calendar___len__ T.d_Calendar___len__ ["self"] (liftX (bLenC T.c_Calendar)) := by
  refine T.F_Calendar___len__.ok sc_Calendar___len__ (fun vs H Q E h => ?_) (fun cdv A outer s H vs Q E hr h => ?_)
  · obtain ⟨kn, _, _, a, r, f, e, rfl, _⟩ := h
    rfl
  · obtain ⟨kn, ex, nt, a, r, f, e, rfl, st, h⟩ := h
    refine ⟨_, (pss_one (ps_ret (pe_callB c_lenDK (by rfl) T.b_len (by decide +kernel) (pa_cons (pe_fld (pv 0) rfl) pa_nil)))), ?_⟩
    refine body_of (pure_start ex nt) ?_
    exact s_ret (w_cb (w_cons (w_stays T.cl_Calendar T.na_Calendar__stays rfl st fun d hd => w_nil (r_lenD hd (h 0)))))
theorem oN_Calendar___iter__ (T : Tx K mg) : FnN P w K mg base CX0 1 T.f_Calendar___iter__ T.d_Calendar___iter__ ["self"] (spIterK T.c_Calendar "_stays") := by
  refine T.F_Calendar___iter__.okN sc_Calendar___iter__ (fun n vs H Q E h => ?_) (fun cdv A outer s H vs Q E hr h => ?_)
  · obtain ⟨a, dx, fs, d, o, kvs, rfl, _⟩ := h
    rfl
  · obtain ⟨a, dx, fs, d, o, kvs, rfl, ha, hl, hd, h⟩ := h
    refine ⟨_, (pss_one (ps_ret (pe_callB c_iterK (by rfl) T.b_iter (by decide +kernel) (pa_cons (pe_fld (pv 0) rfl) pa_nil)))), ?_⟩
    exact ⟨_, rfl, a, _, dx, fs, _, rfl, ha, T.cl_Calendar, T.na_Calendar__stays, hl, d, o, kvs, rfl, hd, h⟩
theorem ok_parts_of (T : Tx K mg) : FnOk P w K mg base CX0 1 T.f_parts_of T.d_parts_of ["calendar"] (liftX (bParts T.c_Calendar)) := by
  refine T.F_parts_of.ok sc_parts_of (fun vs H Q E h => ?_) (fun cdv A outer s H vs Q E hr h => ?_)
  · obtain ⟨kn, _, _, a, r, f, e, rfl, _⟩ := h
    rfl
  · obtain ⟨kn, ex, nt, a, r, f, e, rfl, st, h⟩ := h
    refine ⟨_, (pss_one (ps_ret (pe_tup (pa_cons (pe_fld (pv 0) rfl) (pa_cons (pe_fld (pv 0) rfl) (pa_cons (pe_fld (pv 0) rfl) pa_nil)))))), ?_⟩
    refine body_of (pure_start ex nt) ?_
    refine s_ret (w_tup (w_cons (w_rooms T.cl_Calendar T.na_Calendar_rooms rfl st (w_cons (w_first T.cl_Calendar T.na_Calendar_first rfl st (w_cons (w_after T.cl_Calendar T.na_Calendar_after rfl st (w_nil ?_))))))))
    exact ⟨show 3 ≤ 1000 by decide, fun q hq => h q hq 0⟩
theorem ok_Calendar_free_rooms (T : Tx K mg) : FnOk P w K mg base CX0 1 T.f_Calendar_free_rooms T.d_Calendar_free_rooms ["self"] (liftX (bFree T.c_Calendar)) := by
  refine T.F_Calendar_free_rooms.ok sc_Calendar_free_rooms (fun vs H Q E h => ?_) (fun cdv A outer s H vs Q E hr h => ?_)
  · obtain ⟨kn, _, _, a, r, f, e, rfl, _⟩ := h
    rfl
  · obtain ⟨kn, ex, nt, a, r, f, e, rfl, st, h⟩ := h
    have d1 : -999999999999 ≤ f ∧ f ≤ 999999999999 := st.d1
    have d2 : -999999999999 ≤ e ∧ e ≤ 999999999999 := st.d2
    have l1 := st.lt
    have l2 := st.most
    refine ⟨_, (pss_cons (ps_setLc (i := 1) (own := [("_", 2)]) (g := gName 2) (by rfl) sc_Calendar_free_rooms.nd rfl rfl (sw_true rfl rfl rfl (by decide +kernel)) (pi_range2 (by rfl) T.b_range (pa_cons (pe_fld (pv 0) rfl) (pa_cons (pe_fld (pv 0) rfl) pa_nil))) (blkOk_by (own := [("_", 2)]) (N := ["self", "rooms", "_", "stay", "night"]) (sc := defScope s_Calendar_free_rooms) (by decide +kernel)) (fun _ _ _ _ _ => pg_name (i := 2) sc_Calendar_free_rooms.nd rfl (Or.inl rfl)) (fun _ _ _ _ _ => pts_nil) (fun _ _ _ _ _ => (show PE _ _ (tFld K (tVar 0) "rooms") from pe_fld (pv 0) rfl)))
       (pss_cons (ps_lock (ps_for PassesOwn.never rfl (pi_values (pe_fld (pv 0) rfl)) (pg_name (i := 3) sc_Calendar_free_rooms.nd rfl (Or.inl rfl)) (pss_one ps_never)))
       (pss_one (ps_ret (pe_callTy c_tupQ (by rfl) T.b_tuple (by decide +kernel) (pa_cons (pv 1) pa_nil)))))), ?_⟩
    refine body_of (pure_start ex nt) ?_
    refine s_seq (s_set (w_lcV (i_rng2 (w_cons (w_first T.cl_Calendar T.na_Calendar_first rfl st (w_cons (w_after T.cl_Calendar T.na_Calendar_after rfl st (w_nil ?_))))))))
    refine ⟨f, e, rfl, ⟨by omega, by omega, by omega, by omega⟩, _, _, List.replicate (e - f).toNat (.int r), gives_rng, ?_, ?_, fun _ _ => trivial, ?_, ?_⟩
    · rw [List.length_map, List.length_range]; omega
    · rw [List.length_replicate, List.length_map, List.length_range]
    · intro i x y hx hy k ek
      refine g_name ⟨rfl, rfl, rfl, ?_⟩
      refine w_rooms T.cl_Calendar T.na_Calendar_rooms rfl (st.ext ek) ⟨?_, rfl, rfl⟩
      exact (List.eq_of_mem_replicate (List.mem_of_getElem? hy)).symm
    · intro D hD
      have eD := ext_new (o := .lst (List.replicate (e - f).toNat (.int r))) hD
      obtain ⟨dx, d, a1, a2⟩ := (st.ext eD).at_
      refine s_seq (s_valsE rfl a1 T.cl_Calendar T.na_Calendar__stays rfl a2 ?_)
      refine s_ret (w_cb (w_cons (w_var rfl (w_nil (r_tupL upd_same fun l hl => ?_)))))
      exact h l _ (ext_tr eD (ext_new hl)) (free_ext eD hl) upd_same 0
end

end NN

namespace NN
open PySem PySem.Spec PyProof.Rows L2 LamX AW ClX
/-! ### the guests of an empty calendar -/
theorem pure_ext {kn H k H' : Hp} {m : Nat} (e : Ext kn k) (x : Ext kn H) (g : Good (pureC kn H) k m H') : Ext H H' := fun y o hy => by
  cases z : kn y with
  | none => exact g.inv y o hy (.inl z)
  | some u =>
    have q := x y u z
    rw [hy] at q
    cases q
    exact g.ex y _ (e y _ z)
theorem pi_never {X : Cx} {tg e : Expr} : PI X tg e (fun _ _ _ => False) := ⟨fun _ _ _ _ _ _ h => h.elim⟩
theorem w_lc2E {K : PySem.W.Frag} {c : Cw} {kn : Hp} {n : Nat} {σ : L2.St} {Q : V → Hp → Nat → Prop} {i : Nat} {a : Addr} {g g1 : TG} {tt tt1 : TT} {wi1 : TI} {te : TE} {vs vs1 : List Nat} (hs : σ[i]? = some (some (.ref a))) (ha : kn a = some (.lst [])) (q : ∀ p, kn p = none → Q (.ref p) (upd kn p (.lst [])) n) :
    W c (tLc2 (iList K (tVar i)) g tt wi1 g1 tt1 te vs vs1 σ) kn n Q := by
  intro H G Q' k
  have eA := G.ex _ _ ha
  refine ⟨.ref a, hs, a, rfl, ⟨[], sql eA⟩, fun D hD => ⟨fun i m H' => i = 0 ∧ H' = upd H D (.lst []), ⟨0, rfl, rfl⟩, ?_⟩⟩
  rintro i m H' ⟨rfl, rfl⟩
  exact .inl ⟨⟨[], sql (by rw [upd_ne (ne_of_none eA hD)]; exact eA), Nat.le_refl _⟩, k _ _ _ _ (q D (G.free hD)) (G.new hD)⟩
def bNamesBy (C : Addr) : List V → Hp → AK → AXK → Prop := fun vs kn Q _ => ∃ s r f e, vs = [.ref s] ∧ CalAt C kn s r f e ∧ ∀ p k', Ext kn k' → kn p = none → k' p = some (.lst []) → Q (.ref p) k'
theorem mo_namesBy {C : Addr} : MonoX (bNamesBy C) := by
  rintro vs kn Q R E F h1 h2 ⟨s, r, f, e, a, b, h⟩
  exact ⟨s, r, f, e, a, b, fun p k x y z => h1 _ _ (h p k x y z)⟩
section
variable {P : Program} {w : World} {K : PySem.W.Frag} {mg : Str → Option Value} {base : Heap}
theorem oE_Calendar_guests (T : Tx K mg) : GFnE P w K mg base 2 T.f_Calendar_guests T.d_Calendar_guests ["self"] (spGenE T.c_Calendar "_stays") := by
  refine T.F_Calendar_guests.okE sc_Calendar_guests (fun vs G C h => ?_) (fun cdv A fr z G vs C pn hr h => ?_)
  · obtain ⟨a, dx, fs, d, rfl, _⟩ := h
    rfl
  · obtain ⟨a, dx, fs, d, rfl, ha, hf, hd, h⟩ := h
    have nad : a ≠ d := fun q => by rw [q, hd] at ha; cases ha
    have k1 : upd (upd (fun _ => none) a (.ins T.c_Calendar dx fs)) d (.dK []) a = some (.ins T.c_Calendar dx fs) := by rw [upd_ne nad]; exact upd_same
    have k2 : upd (upd (fun _ => none) a (.ins T.c_Calendar dx fs)) d (.dK []) d = some (.dK []) := upd_same
    generalize hk : upd (upd (fun _ => none) a (.ins T.c_Calendar dx fs)) d (.dK []) = kn at k1 k2
    have sub : ∀ y o, kn y = some o → (y = a ∧ o = .ins T.c_Calendar dx fs) ∨ (y = d ∧ o = .dK []) := fun y o e => by
      rw [← hk] at e
      by_cases q1 : y = d
      · rw [q1, upd_same] at e; cases e; exact .inr ⟨q1, rfl⟩
      · rw [upd_ne q1] at e
        by_cases q2 : y = a
        · rw [q2, upd_same] at e; cases e; exact .inl ⟨q2, rfl⟩
        · rw [upd_ne q2] at e; cases e
    have ex : Ext kn G := fun y o e => by
      rcases sub y o e with ⟨rfl, rfl⟩ | ⟨rfl, rfl⟩
      · exact ha
      · exact hd
    have nt : ∀ y o, kn y = some o → isTbl o = false := fun y o e => by
      rcases sub y o e with ⟨_, rfl⟩ | ⟨_, rfl⟩ <;> rfl
    refine ⟨_, (pss_cons (ps_set (i := 1) sc_Calendar_guests.nd rfl (by first | exact Or.inl rfl | exact Or.inr rfl) (pe_callTy c_dictDK (by rfl) T.b_dict (by decide +kernel) (pa_cons (pe_fld (pv 0) rfl) pa_nil)))
       (pss_one (ps_for owns_gcx rfl (pi_list (pe_callB cr_sortedI (by rfl) T.b_sorted (by decide +kernel) (pa_cons (pe_lock (pe_lc (own := [("name", 2)]) (g := gName 2) (by rfl) sc_Calendar_guests.nd (pi_keys (pv 1)) (blkOk_by (own := [("name", 2)]) (N := ["self", "stays", "name"]) (sc := defScope s_Calendar_guests) (by decide +kernel)) (fun _ _ _ _ _ => pg_name (i := 2) sc_Calendar_guests.nd rfl (Or.inl rfl)) (fun _ _ _ _ _ => pts_nil) (fun _ _ _ _ _ => pe_never))) pa_nil))) (pg_name (i := 2) sc_Calendar_guests.nd rfl (by first | exact Or.inl rfl | exact Or.inr rfl)) (pss_one ps_never)))), ?_⟩
    refine (show WS (pureC kn G) _ { nx := fun _ k _ => Ext kn k, rt := fun v k _ => v = .non ∧ Ext kn k } _ kn 0 from ?_) G (pure_start ex nt) _ ⟨fun _ k _ H e g => h _ (pure_ext e ex g), fun v k _ H e g => ⟨e.1, h _ (pure_ext e.2 ex g)⟩, fun _ _ _ _ e _ => e.elim, fun _ _ _ _ e _ => e.elim⟩
    refine s_seq (s_set (w_cb (w_cons (w_fld (w_var rfl ⟨_, _, _, _, _, rfl, k1, T.cl_Calendar, T.na_Calendar__stays, hf, w_nil (r_dictD k2 fun p hp => ?_)⟩)))))
    refine s_forJ (i_list (w_cb (w_cons (w_lcKeysE rfl upd_same fun l hl => w_nil (r_sortI (ns := []) upd_same fun ns' p2 pm ps hp2 => ?_)))))
    have en : ns' = [] := List.perm_nil.mp pm
    subst en
    have e3 := ext_tr (ext_tr (ext_new (o := .dK []) hp) (ext_new (o := .lst []) hl)) (ext_new (o := .lst []) hp2)
    exact ⟨p2, [], rfl, upd_same, [], _, fun _ _ k _ => Ext kn k ∧ k p2 = some (.lst []), gives_lst, ⟨e3, upd_same⟩, fun _ _ _ _ q => q.2, fun i x _ _ _ q => by simp at q, fun _ _ _ q => q.1⟩
theorem ok_names_by_stays (T : Tx K mg) : FnOk P w K mg base CX0 4 T.f_names_by_stays T.d_names_by_stays ["calendar"] (liftX (bNamesBy T.c_Calendar)) := by
  refine T.F_names_by_stays.ok sc_names_by_stays (fun vs H Q E h => ?_) (fun cdv A outer s H vs Q E hr h => ?_)
  · obtain ⟨kn, _, _, a, r, f, e, rfl, _⟩ := h
    rfl
  · obtain ⟨kn, ex, nt, a, r, f, e, rfl, st, h⟩ := h
    refine ⟨_, (pss_cons (ps_set (i := 1) sc_names_by_stays.nd rfl (by first | exact Or.inl rfl | exact Or.inr rfl) pe_dnewK)
       (pss_cons (ps_forGE PassesOwn.never (pge_meth0 (pv 0) T.cl_Calendar T.me_Calendar_guests (oE_Calendar_guests T) (hr.mono (by decide)) T.bd_Calendar_guests) (hr.mono (by decide)))
       (pss_cons (ps_set (i := 5) sc_names_by_stays.nd rfl (by first | exact Or.inl rfl | exact Or.inr rfl) (pe_callB cr_sortedI (by rfl) T.b_sorted (by decide +kernel) (pa_cons (pe_lock (pe_lc (own := [("number", 6)]) (g := gName 6) (by rfl) sc_names_by_stays.nd (pi_keys (pv 1)) (blkOk_by (own := [("number", 6)]) (N := ["calendar", "found", "name", "stay", "place", "order", "number"]) (sc := defScope s_names_by_stays) (by decide +kernel)) (fun _ _ _ _ _ => pg_name (i := 6) sc_names_by_stays.nd rfl (Or.inl rfl)) (fun _ _ _ _ _ => pts_nil) (fun _ _ _ _ _ => pe_never))) pa_nil)))
       (pss_one (ps_ret (pe_lc2 (own := [("number", 6), ("name", 2)]) (g := gName 6) (g1 := gName 2) (vs1 := [2]) (by rfl) sc_names_by_stays.nd (pi_list (pv 5)) (blkOk_by (own := [("number", 6), ("name", 2)]) (N := ["calendar", "found", "name", "stay", "place", "order", "number"]) (sc := defScope s_names_by_stays) (by decide +kernel)) (by decide) (fun _ _ _ _ _ => pg_name (i := 6) sc_names_by_stays.nd rfl (Or.inl rfl)) (fun _ _ _ _ _ => pts_nil) (fun _ _ _ _ _ => pi_never) (fun _ _ _ _ _ => pg_name (i := 2) sc_names_by_stays.nd rfl (Or.inl rfl)) (fun _ _ _ _ _ => pts_nil) (fun _ _ _ _ _ => pe_never))))))), ?_⟩
    refine body_of (pure_start ex nt) ?_
    refine s_seq (s_set (w_dnew fun q hq => ?_))
    have e1 := ext_new (o := .dK []) hq
    obtain ⟨dx, d, a1, a2⟩ := (st.ext e1).at_
    refine s_seq (s_forE rfl a1 rfl rfl a2 ?_)
    refine s_seq (s_set (w_cb (w_cons (w_lcKeysE rfl upd_same fun l hl => w_nil (r_sortI (ns := []) upd_same fun ns' p2 pm ps hp2 => ?_)))))
    have en : ns' = [] := List.perm_nil.mp pm
    subst en
    have e3 := ext_tr (ext_tr e1 (ext_new (o := .lst []) hl)) (ext_new (o := .lst []) hp2)
    refine s_ret (w_lc2E rfl upd_same fun p hp => ?_)
    exact h p _ (ext_tr e3 (ext_new hp)) (free_ext e3 hp) upd_same 0
end

end NN

namespace NN
open PySem PySem.Spec PyProof.Rows L2 LamX AW ClX
/-! ### ==, supply -/
theorem eqv_3 (r f e r' f' e' : Int) : PyData.eqv (.tuple [.int r, .int f, .int e]) (.tuple [.int r', .int f', .int e']) = decide (r = r' ∧ f = f' ∧ e = e') := by
  show PyData.eqvAll _ _ = _
  simp [PyData.eqvAll, PyData.eqv, Bool.decide_and]
  rfl
def bEqC (K : PySem.W.Frag) (C : Addr) : List V → Hp → AK → AXK → Prop := fun vs kn Q _ => ∃ s r f e y, vs = [.ref s, y] ∧ CalAt C kn s r f e ∧
  ((∃ b r' f' e', y = .ref b ∧ CalAt C kn b r' f' e' ∧ ∀ k', Ext kn k' → Q (.bl (decide (r = r' ∧ f = f' ∧ e = e'))) k') ∨ ∃ ty, TyX K kn y ty ∧ PySem.W.kitOne K ty (.ref C) = some false ∧ Q (.bl false) kn)
theorem mo_eqC {K : PySem.W.Frag} {C : Addr} : MonoX (bEqC K C) := by
  rintro vs kn Q R E F h1 h2 ⟨s, r, f, e, y, a, b, ⟨o, r', f', e', c, d, h⟩ | ⟨ty, c, d, h⟩⟩
  · exact ⟨s, r, f, e, y, a, b, .inl ⟨o, r', f', e', c, d, fun k x => h1 _ _ (h k x)⟩⟩
  · exact ⟨s, r, f, e, y, a, b, .inr ⟨ty, c, d, h1 _ _ h⟩⟩
def bSupply (C : Addr) : List V → Hp → AK → AXK → Prop := fun vs kn Q _ => ∃ s r f e k, vs = [.ref s, .int k] ∧ CalAt C kn s r f e ∧ f ≤ k ∧ k ≤ e ∧ ∀ k', Ext kn k' → Q (.int (if k = f then r else if k = e then -r else 0)) k'
theorem mo_supply {C : Addr} : MonoX (bSupply C) := by
  rintro vs kn Q R E F h1 h2 ⟨s, r, f, e, k, a, b, c, d, h⟩
  exact ⟨s, r, f, e, k, a, b, c, d, fun k x => h1 _ _ (h k x)⟩
theorem row_at {r : Int} {m j : Nat} (hj : j ≤ m + 1) : ([V.int 0] ++ (List.replicate m (V.int r) ++ [V.int 0]))[j]? = some (.int (if j = 0 then 0 else if j = m + 1 then 0 else r)) := by
  cases j with
  | zero => simp
  | succ j =>
    show (List.replicate m (V.int r) ++ [V.int 0])[j]? = _
    by_cases h : j = m
    · subst h
      simp
    · have hl : j < m := by omega
      rw [List.getElem?_append_left (by rw [List.length_replicate]; exact hl), List.getElem?_replicate, if_pos hl]
      simp [h]
theorem supply_at {r f e k : Int} (h1 : f ≤ k) (h2 : k ≤ e) (lt : f < e) :
    ∃ x y : Int, atI ([V.int 0] ++ (List.replicate (e - f).toNat (V.int r) ++ [V.int 0])) (k - f + 1) = some (.int x) ∧ atI ([V.int 0] ++ (List.replicate (e - f).toNat (V.int r) ++ [V.int 0])) (k - f) = some (.int y) ∧ x - y = (if k = f then r else if k = e then -r else 0) := by
  obtain ⟨j, hj⟩ : ∃ j : Nat, k - f = (j : Int) := ⟨(k - f).toNat, by omega⟩
  obtain ⟨m, hm⟩ : ∃ m : Nat, e - f = (m : Int) := ⟨(e - f).toNat, by omega⟩
  have em : (e - f).toNat = m := by omega
  rw [em, hj]
  have a1 := row_at (r := r) (m := m) (j := j + 1) (by omega)
  have a2 := row_at (r := r) (m := m) (j := j) (by omega)
  refine ⟨_, _, atI_nat a1, atI_nat a2, ?_⟩
  by_cases q1 : j = 0
  · have : k = f := by omega
    subst q1
    have hm0 : m ≠ 0 := by omega
    simp [this]
    omega
  · have n1 : ¬ k = f := by omega
    rw [if_neg n1]
    by_cases q2 : j = m
    · have : k = e := by omega
      rw [if_pos this, if_neg (by omega), if_pos (by omega), if_neg q1, if_neg (by omega)]
      omega
    · rw [if_neg (by omega : ¬ k = e), if_neg (by omega), if_neg (by omega), if_neg q1, if_neg (by omega)]
      omega
section
variable {P : Program} {w : World} {K : PySem.W.Frag} {mg : Str → Option Value} {base : Heap}
theorem ok_Calendar___eq__ (T : Tx K mg) : FnOk P w K mg base CX0 2 T.f_Calendar___eq__ T.d_Calendar___eq__ ["self", "other"] (liftX (bEqC K T.c_Calendar)) := by
  refine T.F_Calendar___eq__.ok sc_Calendar___eq__ (fun vs H Q E h => ?_) (fun cdv A outer s H vs Q E hr h => ?_)
  · obtain ⟨kn, _, _, a, r, f, e, y, rfl, _⟩ := h
    rfl
  · obtain ⟨kn, ex, nt, a, r, f, e, y, rfl, st, h⟩ := h
    refine ⟨_, (pss_one (ps_ret (pe_and (pe_callB call_isi (by rfl) T.b_isinstance (by decide +kernel) (pa_cons (pv 1) (pa_cons (pe_glob (v := .ref T.c_Calendar) (by rfl) T.g_Calendar rfl) pa_nil))) (pe_and (pe_cmpR (show OpR _ _ (rEqD K) from op_eqD hr.units) (pe_call (ok_parts_of T) (hr.mono (by decide)) (by rfl) T.g_parts_of T.F_parts_of.kp T.bd_parts_of .nil pass0 (pa_cons (pv 0) pa_nil)) (pe_call (ok_parts_of T) (hr.mono (by decide)) (by rfl) T.g_parts_of T.F_parts_of.kp T.bd_parts_of .nil pass0 (pa_cons (pv 1) pa_nil)) (nomark _)) (pe_one (pe_cmpR (op_eq_dictA (Nat.lt_of_le_of_lt (Nat.le_add_right _ 64) hr.units)) (pe_fld (pv 0) rfl) (pe_fld (pv 1) rfl) (nomark _))))))), ?_⟩
    refine body_of (pure_start ex nt) ?_
    walk_at "wi"
    rcases h with ⟨b, r', f', e', rfl, sb, h⟩ | ⟨ty, hy, kt, h⟩
    · obtain ⟨dx, d, a1, a2⟩ := st.at_
      obtain ⟨dx', d', b1, b2⟩ := sb.at_
      refine r_isi (.own _) (T.own_Calendar.ty b1) T.kit_Calendar ?_
      walk_at "wi"
      refine w_call mo_parts err_no ?_
      walk_at "wi"
      refine ⟨a, r, f, e, rfl, st, fun p hp => ?_⟩
      have e1 := ext_new (o := .tup [.int r, .int f, .int e]) hp
      walk_at "wi"
      refine w_call mo_parts err_no ?_
      walk_at "wi"
      refine ⟨b, r', f', e', rfl, sb.ext e1, fun q hq => ?_⟩
      have e2 := ext_tr e1 (ext_new (o := .tup [.int r', .int f', .int e']) hq)
      walk_at "wi"
      refine r_eq_d (d := .tuple [.int r, .int f, .int e]) (e := .tuple [.int r', .int f', .int e']) (.tup (sqt (know hq upd_same)) (.cons (.int _) (.cons (.int _) (.cons (.int _) .nil)))) (.tup (sqt upd_same) (.cons (.int _) (.cons (.int _) (.cons (.int _) .nil)))) rfl rfl ?_
      rw [eqv_3]
      walk_at "wi"
      refine ⟨fun hb => ?_, fun hb => ?_⟩
      · refine w_op (w_stays T.cl_Calendar T.na_Calendar__stays rfl (st.ext e2) fun c1 k1 => w_stays T.cl_Calendar T.na_Calendar__stays rfl (sb.ext e2) fun c2 k2 => r_eqD0 k1 k2 ?_)
        have z := h _ e2 0
        rw [hb] at z
        exact z
      · have z := h _ e2 0
        rw [hb] at z
        exact z
    · refine r_isi (.own _) hy kt ?_
      walk_at "wi"
      exact h 0
end

end NN

namespace NN
open PySem PySem.Spec PyProof.Rows L2 LamX AW ClX
/-! ### supply, room_plan -/
theorem pss_never {X : Cx} {body : List Stmt} : PSs X body tNever := ⟨fun _ _ _ _ _ _ h => False.elim h⟩
def bPlan (C : Addr) : List V → Hp → AK → AXK → Prop := fun vs kn Q _ => ∃ s r f e, vs = [.ref s] ∧ CalAt C kn s r f e ∧ ∀ p k', Ext kn k' → kn p = none → k' p = some (.dK []) → Q (.ref p) k'
theorem mo_plan {C : Addr} : MonoX (bPlan C) := by
  rintro vs kn Q R E F h1 h2 ⟨s, r, f, e, a, b, h⟩
  exact ⟨s, r, f, e, a, b, fun p k x y z => h1 _ _ (h p k x y z)⟩
theorem w_free {c : Cw} {kn : Hp} {n i : Nat} {σ : L2.St} {Q : V → Hp → Nat → Prop} {C s : Addr} {r f e : Int} {E : XK} (hv : σ[i]? = some (some (.ref s))) (st : CalAt C kn s r f e)
    (q : ∀ p k', Ext kn k' → kn p = none → k' p = some (.tup (List.replicate (e - f).toNat (.int r))) → Q (.ref p) k' n) : W c (tProp C (liftX (bFree C)) [] E (tVar i) σ) kn n Q := by
  obtain ⟨dx, d, a1, a2⟩ := st.at_
  exact w_prop mo_free (w_var hv ⟨s, dx, _, rfl, a1, s, r, f, e, rfl, st, q⟩)
section
variable {P : Program} {w : World} {K : PySem.W.Frag} {mg : Str → Option Value} {base : Heap}
theorem ok_Calendar_supply (T : Tx K mg) : FnOk P w K mg base CX0 3 T.f_Calendar_supply T.d_Calendar_supply ["self", "day"] (liftX (bSupply T.c_Calendar)) := by
  refine T.F_Calendar_supply.ok sc_Calendar_supply (fun vs H Q E h => ?_) (fun cdv A outer s H vs Q E hr h => ?_)
  · obtain ⟨kn, _, _, a, r, f, e, k, rfl, _⟩ := h
    rfl
  · obtain ⟨kn, ex, nt, a, r, f, e, k, rfl, st, l1, l2, h⟩ := h
    have lt := st.lt
    have ms := st.most
    refine ⟨_, (pss_cons (ps_if (pt_not (pt_val (pe_call (ok_is_from T) (hr.mono (by decide)) (by rfl) T.g_is_from T.F_is_from.kp T.bd_is_from .nil pass0 (pa_cons (pv 1) (pa_cons (pe_fld (pv 0) rfl) (pa_cons (pe_fld (pv 0) rfl) pa_nil))))))
       (pss_one ps_never)
       pss_nil)
       (pss_cons (ps_set (i := 2) sc_Calendar_supply.nd rfl (by first | exact Or.inl rfl | exact Or.inr rfl) (pe_prop (pv 0) T.cl_Calendar T.pp_Calendar_free_rooms (ok_Calendar_free_rooms T) (hr.mono (by decide)) T.bd_Calendar_free_rooms .nil pass0 (by rfl)))
       (pss_cons (ps_set (i := 3) sc_Calendar_supply.nd rfl (by first | exact Or.inl rfl | exact Or.inr rfl) (pe_tup (pa_cons pe_int (StX.pa_star (pv 2) (pa_cons pe_int pa_nil)))))
       (pss_one (ps_ret (pe_op op_sub (pe_ix (show IxR _ (rIxT K) from ix_tup) (pv 3) (pe_op op_add (pe_op op_sub (pv 1) (pe_fld (pv 0) rfl)) pe_int) (fun _ _ => rfl)) (pe_ix (show IxR _ (rIxT K) from ix_tup) (pv 3) (pe_op op_sub (pv 1) (pe_fld (pv 0) rfl)) (fun _ _ => rfl)))))))), ?_⟩
    refine body_of (pure_start ex nt) ?_
    walk_at "wi"
    refine w_call mo_from err_no ?_
    refine w_cons (w_var rfl ?_)
    refine w_cons (w_first T.cl_Calendar T.na_Calendar_first rfl st (w_cons (w_after T.cl_Calendar T.na_Calendar_after rfl st (w_nil ?_))))
    refine ⟨_, _, _, rfl, .inl ⟨k, rfl, ?_⟩⟩
    rw [decide_eq_true l1, decide_eq_true l2]
    walk_at "wi"
    refine ⟨fun z => by simp at z, fun _ => ?_⟩
    walk_at "wi"
    refine w_free rfl st fun p k1 e1 p0 hp => ?_
    walk_at "wi"
    refine w_star (w_var rfl ⟨p, _, rfl, .inr hp, ?_⟩)
    walk_at "wi"
    refine ⟨by simp; omega, fun q hq => ?_⟩
    have e2 := ext_tr e1 (ext_new (o := .tup (V.int 0 :: (List.replicate (e - f).toNat (.int r) ++ [V.int 0]))) hq)
    obtain ⟨x, y, b1, b2, b3⟩ := supply_at (r := r) l1 l2 lt
    walk_at "wi"
    refine w_first T.cl_Calendar T.na_Calendar_first rfl (st.ext e2) (r_I0 (w_c (r_I0 (r_ixT upd_same b1 ?_))))
    walk_at "wi"
    refine w_first T.cl_Calendar T.na_Calendar_first rfl (st.ext e2) ?_
    refine r_I0 ?_
    refine r_ixT upd_same b2 ?_
    refine r_I0 ?_
    rw [b3]
    exact h _ e2 0
theorem ok_Calendar_room_plan (T : Tx K mg) : FnOk P w K mg base CX0 5 T.f_Calendar_room_plan T.d_Calendar_room_plan ["self"] (liftX (bPlan T.c_Calendar)) := by
  refine T.F_Calendar_room_plan.ok sc_Calendar_room_plan (fun vs H Q E h => ?_) (fun cdv A outer s H vs Q E hr h => ?_)
  · obtain ⟨kn, _, _, a, r, f, e, rfl, _⟩ := h
    rfl
  · obtain ⟨kn, ex, nt, a, r, f, e, rfl, st, h⟩ := h
    have rm := st.rm
    have r1 : 1 ≤ r := rm.1
    have r2 : r ≤ 12 := rm.2
    refine ⟨_, (pss_cons (ps_par (i := 1) (j := 2) (by rfl) sc_Calendar_room_plan.nd rfl rfl (by decide) rfl rfl (pa_cons pe_dnewK (pa_cons (pe_lc (own := [("_", 3)]) (g := gName 3) (by rfl) sc_Calendar_room_plan.nd (pi_range1 (by rfl) T.b_range (pa_cons (pe_fld (pv 0) rfl) pa_nil)) (blkOk_by (own := [("_", 3)]) (N := ["self", "plan", "ends", "_", "name", "stay", "room", "end"]) (sc := defScope s_Calendar_room_plan) (by decide +kernel)) (fun _ _ _ _ _ => pg_name (i := 3) sc_Calendar_room_plan.nd rfl (Or.inl rfl)) (fun _ _ _ _ _ => pts_nil) (fun _ _ _ _ _ => (show PE _ _ (tFld K (tVar 0) "first") from pe_fld (pv 0) rfl))) pa_nil)) (by rfl))
       (pss_cons (ps_for PassesOwn.never rfl (pi_list (pe_call (ok_names_by_stays T) (hr.mono (by decide)) (by rfl) T.g_names_by_stays T.F_names_by_stays.kp T.bd_names_by_stays .nil pass0 (pa_cons (pv 0) pa_nil))) (pg_name (i := 4) sc_Calendar_room_plan.nd rfl (by first | exact Or.inl rfl | exact Or.inr rfl)) pss_never)
       (pss_one (ps_ret (pv 1))))), ?_⟩
    refine body_of (pure_start ex nt) ?_
    refine s_seq (s_par (w_cons (w_dnew fun q hq => ?_)))
    have e1 := ext_new (o := .dK []) hq
    refine w_cons (w_lcV (i_rng1 (w_cons (w_rooms T.cl_Calendar T.na_Calendar_rooms rfl (st.ext e1) (w_nil ?_)))))
    refine ⟨r, rfl, by omega, by omega, _, _, List.replicate r.toNat (.int f), gives_rng, ?_, ?_, fun _ _ => trivial, ?_, ?_⟩
    · rw [List.length_map, List.length_range]; omega
    · rw [List.length_replicate, List.length_map, List.length_range]
    · intro i x y hx hy k ek
      refine g_name ⟨rfl, rfl, rfl, ?_⟩
      refine w_first T.cl_Calendar T.na_Calendar_first rfl (st.ext (ext_tr e1 ek)) ⟨?_, rfl, rfl⟩
      exact (List.eq_of_mem_replicate (List.mem_of_getElem? hy)).symm
    · intro D hD
      have eD := ext_tr e1 (ext_new (o := .lst (List.replicate r.toNat (.int f))) hD)
      refine w_nil ⟨_, _, rfl, ?_⟩
      refine s_seq (s_forJ (i_list (w_call mo_namesBy err_no (w_cons (w_var rfl (w_nil ?_))))))
      refine ⟨a, r, f, e, rfl, st.ext eD, fun p k' ek hp kp => ?_⟩
      have dq : k' q = some (.dK []) := ek _ _ (know hD upd_same)
      refine ⟨p, [], rfl, kp, [], _, fun _ σ' k _ => σ' = _ ∧ k = k', gives_lst, ⟨rfl, rfl⟩, fun i σ' k n q => ?_, fun i x _ _ _ q => by simp at q, fun σ' k n q => ?_⟩
      · rw [q.2]; exact kp
      · obtain ⟨rfl, rfl⟩ := q
        refine s_ret (w_var rfl ?_)
        exact h _ _ (ext_tr eD ek) hq dq _
end

end NN

namespace NN
open PySem PySem.Spec PyProof.Rows L2 LamX AW ClX
/-! ### with_rooms, twin -/
def bWith (C : Addr) : List V → Hp → AK → AXK → Prop := fun vs kn Q _ => ∃ s r f e m, vs = [.ref s, .int m] ∧ CalAt C kn s r f e ∧ isRm m ∧ NewC C kn m f e Q
theorem mo_with {C : Addr} : MonoX (bWith C) := by
  rintro vs kn Q R E F h1 h2 ⟨s, r, f, e, m, a, b, c, h⟩
  exact ⟨s, r, f, e, m, a, b, c, fun x k y z u => h1 _ _ (h x k y z u)⟩
def bTwin (C : Addr) : List V → Hp → AK → AXK → Prop := fun vs kn Q _ => ∃ s r f e, vs = [.ref s] ∧ CalAt C kn s r f e ∧ NewC C kn r f e Q
theorem mo_twin {C : Addr} : MonoX (bTwin C) := by
  rintro vs kn Q R E F h1 h2 ⟨s, r, f, e, a, b, h⟩
  exact ⟨s, r, f, e, a, b, fun x k y z u => h1 _ _ (h x k y z u)⟩
section
variable {P : Program} {w : World} {K : PySem.W.Frag} {mg : Str → Option Value} {base : Heap}
theorem ok_Calendar_with_rooms (T : Tx K mg) : FnOk P w K mg base CX0 6 T.f_Calendar_with_rooms T.d_Calendar_with_rooms ["self", "rooms"] (liftX (bWith T.c_Calendar)) := by
  refine T.F_Calendar_with_rooms.ok sc_Calendar_with_rooms (fun vs H Q E h => ?_) (fun cdv A outer s H vs Q E hr h => ?_)
  · obtain ⟨kn, _, _, a, r, f, e, m, rfl, _⟩ := h
    rfl
  · obtain ⟨kn, ex, nt, a, r, f, e, m, rfl, st, hm, h⟩ := h
    refine ⟨_, (pss_cons (ps_set (i := 2) sc_Calendar_with_rooms.nd rfl (by first | exact Or.inl rfl | exact Or.inr rfl) (pe_make T.mk_Calendar (ok_Calendar___init__ T) (hr.mono (by decide)) (by rfl) T.g_Calendar T.bd_Calendar___init__ .nil passL (pa_cons (pv 1) (pa_cons (pe_fld (pv 0) rfl) (pa_cons (pe_fld (pv 0) rfl) pa_nil)))))
       (pss_cons (ps_for PassesOwn.never rfl (pi_enumT (by rfl) T.b_enumerate (pa_cons (pe_prop (pv 0) T.cl_Calendar T.pp_Calendar_free_rooms (ok_Calendar_free_rooms T) (hr.mono (by decide)) T.bd_Calendar_free_rooms .nil pass0 (by rfl)) pa_nil)) (pg_tup (by rfl) (pgs_cons (pg_name (i := 3) sc_Calendar_with_rooms.nd rfl (by first | exact Or.inl rfl | exact Or.inr rfl)) (pgs_cons (pg_name (i := 4) sc_Calendar_with_rooms.nd rfl (by first | exact Or.inl rfl | exact Or.inr rfl)) pgs_nil)))
       (pss_one (ps_if (pt_cmpR op_gt (pe_op op_sub (pe_fld (pv 0) rfl) (pv 4)) (pv 1) (nomark _))
       (pss_one ps_never)
       pss_nil)))
       (pss_cons (ps_fld (pv 2) (pe_callTy c_dictDK (by rfl) T.b_dict (by decide +kernel) (pa_cons (pe_fld (pv 0) rfl) pa_nil)) rfl)
       (pss_one (ps_ret (pv 2)))))), ?_⟩
    refine body_of (pure_start ex nt) ?_
    refine s_seq (s_set (w_cal err_no (w_cons (w_var rfl (w_cons (w_first T.cl_Calendar T.na_Calendar_first rfl st (w_cons (w_after T.cl_Calendar T.na_Calendar_after rfl st (w_nil ?_)))))))))
    refine ⟨_, _, _, rfl, .inl ⟨m, f, e, rfl, rfl, rfl, hm, st.d1, st.d2, st.lt, st.most, fun x k1 e1 x0 c1 => ?_⟩⟩
    refine s_seq (s_forET (w_cons (w_free rfl (st.ext e1) fun p k2 e2 p0 hp => w_nil ?_)))
    refine ⟨p, _, fun _ σ' k _ => Ext k2 k ∧ σ'[0]? = some (some (.ref a)) ∧ σ'[1]? = some (some (.int m)) ∧ σ'[2]? = some (some (.ref x)) ∧ σ'.length = 5, rfl, hp, ⟨ext_rf, rfl, rfl, rfl, rfl⟩, fun _ _ _ _ q => q.1 _ _ hp, fun i v σ' k n T' hv q hT => ?_, fun σ' k n q => ?_⟩
    · obtain ⟨ek, s0, s1, s2, sl⟩ := q
      have hv2 : v = .int r := List.eq_of_mem_replicate (List.mem_of_getElem? hv)
      subst hv2
      have e3 := ext_tr (ext_tr (ext_tr e1 e2) ek) (ext_new (o := .tup [.int (i : Nat), .int r]) hT)
      have z0 : ((σ'.set 3 (some (.int (i : Nat)))).set 4 (some (.int r)))[0]? = some (some (.ref a)) := by rw [List.getElem?_set_ne (by decide), List.getElem?_set_ne (by decide)]; exact s0
      have z1 : ((σ'.set 3 (some (.int (i : Nat)))).set 4 (some (.int r)))[1]? = some (some (.int m)) := by rw [List.getElem?_set_ne (by decide), List.getElem?_set_ne (by decide)]; exact s1
      have z2 : ((σ'.set 3 (some (.int (i : Nat)))).set 4 (some (.int r)))[2]? = some (some (.ref x)) := by rw [List.getElem?_set_ne (by decide), List.getElem?_set_ne (by decide)]; exact s2
      have z4 : ((σ'.set 3 (some (.int (i : Nat)))).set 4 (some (.int r)))[4]? = some (some (.int r)) := List.getElem?_set_self (by rw [List.length_set, sl]; decide)
      refine g_tup upd_same rfl (g_cons (g_name (g_cons (g_name (g_nil ?_)))))
      refine s_if (w_test ?_)
      refine w_op (w_op ?_)
      refine w_rooms T.cl_Calendar T.na_Calendar_rooms z0 (st.ext e3) ?_
      refine w_var z4 ?_
      refine r_I0 ?_
      refine w_var z1 ?_
      refine r_I0 ⟨_, rfl, fun hb => ?_, fun _ => s_next ⟨ext_tr ek (ext_new hT), z0, z1, z2, by rw [List.length_set, List.length_set, sl]⟩⟩
      have q1 := of_decide_eq_true hb
      have q2 : 1 ≤ m := hm.1
      omega
    · obtain ⟨ek, s0, s1, s2, sl⟩ := q
      have e3 := ext_tr (ext_tr e1 e2) ek
      obtain ⟨dx, d0, b1, b2⟩ := (c1.ext (ext_tr e2 ek)).at_
      refine s_seq (s_fld (w_cb (w_cons (w_stays T.cl_Calendar T.na_Calendar__stays s0 (st.ext e3) fun d kd => w_nil (r_dictD kd fun d2 hd2 => ?_)))))
      refine w_var s2 ⟨x, _, dx, _, rfl, know hd2 b1, T.cl_Calendar, T.na_Calendar__stays, (show 4 < 1000 by decide), s_ret (w_var s2 ?_)⟩
      have nd : d2 ≠ x := fun z => by rw [z, b1] at hd2; cases hd2
      refine h x _ (fun y o hy => ?_) x0 ⟨⟨dx, d2, upd_same, by rw [upd_ne nd]; exact upd_same⟩, hm, st.d1, st.d2, st.lt, st.most⟩ _
      have y1 : y ≠ x := fun z => by rw [z, x0] at hy; cases hy
      have y2 : y ≠ d2 := fun z => by rw [z] at hy; have q := e3 _ _ hy; rw [hd2] at q; cases q
      rw [upd_ne y1, upd_ne y2]
      exact e3 _ _ hy
theorem ok_Calendar_twin (T : Tx K mg) : FnOk P w K mg base CX0 7 T.f_Calendar_twin T.d_Calendar_twin ["self"] (liftX (bTwin T.c_Calendar)) := by
  refine T.F_Calendar_twin.ok sc_Calendar_twin (fun vs H Q E h => ?_) (fun cdv A outer s H vs Q E hr h => ?_)
  · obtain ⟨kn, _, _, a, r, f, e, rfl, _⟩ := h
    rfl
  · obtain ⟨kn, ex, nt, a, r, f, e, rfl, st, h⟩ := h
    obtain ⟨dx, d, a1, a2⟩ := st.at_
    refine ⟨_, (pss_one (ps_ret (pe_meth (pv 0) T.cl_Calendar T.me_Calendar_with_rooms (ok_Calendar_with_rooms T) (hr.mono (by decide)) T.bd_Calendar_with_rooms .nil pass0 (pa_cons (pe_fld (pv 0) rfl) pa_nil)))), ?_⟩
    refine body_of (pure_start ex nt) ?_
    refine s_ret (w_meth mo_with err_no (w_var rfl ⟨a, dx, _, rfl, a1, rfl, w_cons (w_rooms T.cl_Calendar T.na_Calendar_rooms rfl st (w_nil ?_))⟩))
    exact ⟨a, r, f, e, r, rfl, st, st.rm, fun x k y z u => h x k y z u 0⟩
end

end NN

namespace NN
open PySem PySem.Spec PyProof.Rows L2 LamX AW ClX
open Tx1 Ln
section
variable {P : Program} {w : World} {K : PySem.W.Frag} {mg : Str → Option Value} {base : Heap}
theorem ok__law_draw (T : Tx K mg) : FnOk P w K mg base CX0 1 T.f__law_draw T.d__law_draw ["pen", "many"] spDraw := by
  refine T.F__law_draw.ok sc__law_draw (fun vs H Q E h => ?_) (fun cdv A outer s H vs Q E hr h => ?_)
  · obtain ⟨p, a, ns, n, many, rfl, _⟩ := h
    rfl
  · obtain ⟨p, a, ns, n, many, rfl, hp, hn, h0, h1, k⟩ := h
    obtain ⟨⟨i, g, hP, hi0, hin, hg0⟩, hA, hpa⟩ := hp
    refine ⟨_, (pss_cons (ps_if (pt_cmpR op_gt (pe_ix (show IxR _ (rIxL K) from ix_list) (pv 0) pe_int (fun _ _ => rfl)) pe_int (nomark _))
       (pss_cons (ps_set (i := 2) sc__law_draw.nd rfl (by first | exact Or.inl rfl | exact Or.inr rfl) (pe_op op_mod (pe_callTy c_int (by rfl) T.b_int boot_int (pa_cons (pe_ix (show IxR _ (rIxL K) from ix_list) (pv 0) pe_int (fun _ _ => rfl)) pa_nil)) (pv 1)))
       (pss_cons (ps_asg (pe_op op_fdivW (pe_callTy c_int (by rfl) T.b_int boot_int (pa_cons (pe_ix (show IxR _ (rIxL K) from ix_list) (pv 0) pe_int (fun _ _ => rfl)) pa_nil)) (pv 1)) (pg_sub (pv 0) pe_int set_list))
       (pss_one (ps_ret (pv 2)))))
       pss_nil)
       (pss_cons (ps_set (i := 3) sc__law_draw.nd rfl (by first | exact Or.inl rfl | exact Or.inr rfl) (pe_ix (show IxR _ (rIxL K) from ix_list) (pv 0) pe_int (fun _ _ => rfl)))
       (pss_cons (ps_asg (pe_op op_add (pv 3) pe_int) (pg_sub (pv 0) pe_int set_list))
       (pss_cons (ps_set (i := 4) sc__law_draw.nd rfl (by first | exact Or.inl rfl | exact Or.inr rfl) (pe_op op_add (pe_op op_mul pe_int (pv 3)) pe_int))
       (pss_cons (ps_if (pt_cmpR (op_neD hr.units) (pe_ix (show IxR _ (rIxL K) from ix_list) (pv 0) pe_int (fun _ _ => rfl)) (pe_lst pa_nil) (nomark _))
       (pss_one (ps_set (i := 4) sc__law_draw.nd rfl (by first | exact Or.inl rfl | exact Or.inr rfl) (pe_ix (show IxR _ (rIxL K) from ix_list) (pe_ix (show IxR _ (rIxL K) from ix_list) (pv 0) pe_int (fun _ _ => rfl)) (pe_op op_mod (pe_callTy c_int (by rfl) T.b_int boot_int (pa_cons (pv 3) pa_nil)) (pe_callB c_len (by rfl) T.b_len PySem.boot_len (pa_cons (pe_ix (show IxR _ (rIxL K) from ix_list) (pv 0) pe_int (fun _ _ => rfl)) pa_nil))) (fun _ _ => rfl))))
       pss_nil)
       (pss_cons (ps_if (PW.pt (pw_and (pt_cmpR op_lt (pv 3) (pe_callB c_len (by rfl) T.b_len PySem.boot_len (pa_cons (pe_ix (show IxR _ (rIxL K) from ix_list) (pv 0) pe_int (fun _ _ => rfl)) pa_nil)) (nomark _)) (pw_and1 (pt_cmpR op_ge (pe_callB c_abs (by rfl) T.b_abs (by decide +kernel) (pa_cons (pv 4) pa_nil)) (pe_op op_pow pe_int pe_int) (nomark _)))))
       (pss_cons (ps_set (i := 5) sc__law_draw.nd rfl (by first | exact Or.inl rfl | exact Or.inr rfl) (pe_op op_add (pe_op op_mul pe_int (pe_op op_sub (pe_callB c_abs (by rfl) T.b_abs (by decide +kernel) (pa_cons (pv 4) pa_nil)) (pe_op op_pow pe_int pe_int))) (pe_callTy c_int (by rfl) T.b_int boot_int (pa_cons (pe_cmpR op_lt (pv 4) pe_int (nomark _)) pa_nil))))
       (pss_cons (ps_asg (pe_op op_fdivW (pe_callTy c_int (by rfl) T.b_int boot_int (pa_cons (pv 5) pa_nil)) (pv 1)) (pg_sub (pv 0) pe_int set_list))
       (pss_one (ps_ret (pe_op op_mod (pe_callTy c_int (by rfl) T.b_int boot_int (pa_cons (pv 5) pa_nil)) (pv 1))))))
       pss_nil)
       (pss_cons (ps_set (i := 6) sc__law_draw.nd rfl (by first | exact Or.inl rfl | exact Or.inr rfl) (pe_op op_mod (pe_callTy c_int (by rfl) T.b_int boot_int (pa_cons (pe_op op_pow (pe_op op_add (pe_op op_add (pe_op op_mod (pe_callTy c_int (by rfl) T.b_int boot_int (pa_cons (pv 4) pa_nil)) pe_int) (pe_op op_mul pe_int (pv 3))) pe_int) pe_int) pa_nil)) pe_int))
       (pss_cons (ps_set (i := 6) sc__law_draw.nd rfl (by first | exact Or.inl rfl | exact Or.inr rfl) (pe_op op_mod (pe_callTy c_int (by rfl) T.b_int boot_int (pa_cons (pe_op op_pow (pe_op op_add (pe_op op_add (pe_op op_mul (pv 6) (pe_op op_add (pe_op op_mul pe_int (pv 3)) pe_int)) (pe_op op_mul (pe_op op_mul pe_int (pv 3)) (pv 3))) pe_int) pe_int) pa_nil)) pe_int))
       (pss_one (ps_ret (pe_op op_mod (pe_callTy c_int (by rfl) T.b_int boot_int (pa_cons (pe_op op_fdivW (pv 6) pe_int) pa_nil)) (pv 1)))))))))))), ?_⟩
    have e : Ext (penKn H p a) H := fun x o h => by
      unfold penKn at h
      split at h
      · exact h
      · cases h
    have kP : penKn H p a p = some (.lst [.ref a, .int i, .int g]) := (if_pos (.inl rfl)).trans hP
    have kA : penKn H p a a = some (.lst (ns.map V.int)) := (if_pos (.inr rfl)).trans hA
    have done : ∀ (k' : Int) (kn' : Hp) (n' : Nat) (i' g' : Int), 0 ≤ k' → k' < many → kn' p = some (.lst [.ref a, .int i', .int g']) → kn' a = some (.lst (ns.map V.int)) → 0 ≤ i' → i' ≤ (n + 1 : Nat) → 0 ≤ g' → ∀ H', Good (pureC (penKn H p a) H) kn' n' H' → Q (.int k') H' := fun k' kn' n' i' g' b1 b2 e1 e2 b3 b4 b5 H' G => by
      refine k k' H' b1 b2 ⟨⟨i', g', G.ex _ _ e1, b3, b4, b5⟩, G.ex _ _ e2, hpa⟩ fun x o hx hH => ?_
      by_cases hxa : x = a
      · rw [hxa, hA] at hH
        cases hH
        rw [hxa]
        exact G.ex _ _ e2
      · exact G.inv x o hH (.inl (if_neg (by simp [hx, hxa])))
    have hlog : many.natAbs.log2 < 9000 := Nat.lt_trans ((Nat.log2_lt (by omega)).mpr (show many.natAbs < 2 ^ 70 by omega)) (by decide)
    refine body_of (pure_start e (fun x o h => by
      unfold penKn at h
      split at h
      · rename_i hh
        rcases hh with rfl | rfl
        · rw [hP] at h; cases h; rfl
        · rw [hA] at h; cases h; rfl
      · cases h)) ?_
    walk_at "w"
    refine s_if ?_
    walk_at "w"
    refine ⟨fun hg => ?_, fun hg => ?_⟩
    · have hg' : 0 < g := of_decide_eq_true hg
      walk_at "w"
      refine r_I h0 ?_
      walk_at "w"
      refine r_I ⟨h0, hlog⟩ ?_
      walk_at "w"
      refine ⟨_, _, _, 2, rfl, rfl, kP, rfl, ?_⟩
      walk_at "w"
      have kA' : ∀ o, upd (penKn H p a) p o a = some (.lst (ns.map V.int)) := fun o => by rw [upd_ne hpa.symm]; exact kA
      exact done _ _ _ i (g / many) (Int.emod_nonneg _ (by omega)) (Int.emod_lt_of_pos _ h0) upd_same (kA' _) hi0 (by omega) (Int.ediv_nonneg hg0 (by omega))
    · walk_at "w"
      refine ⟨_, _, _, 1, rfl, rfl, kP, rfl, ?_⟩
      have kA1 : ∀ o, upd (penKn H p a) p o a = some (.lst (ns.map V.int)) := fun o => by rw [upd_ne hpa.symm]; exact kA
      have kP1 : ∀ o, upd (penKn H p a) p o p = some o := fun o => upd_same
      walk_at "w"
      refine r_I (.inl ⟨by decide, by decide⟩) ?_
      walk_at "w"
      -- if pen[0] != []
      refine s_join (fun σ' kn' n' => ∃ cell : Int, σ' = [some (.ref p), some (.int many), none, some (.int i), some (.int cell), none, none] ∧ kn' p = some (.lst [.ref a, .int (i + 1), .int g]) ∧ kn' a = some (.lst (ns.map V.int))) ?_ ?_
      · have kP1 := kP1 (.lst [.ref a, .int (i + 1), .int g])
        have kA1 := kA1 (.lst [.ref a, .int (i + 1), .int g])
        refine s_if ?_
        walk_at "w"
        refine ⟨by decide, fun l hl => ?_⟩
        refine r_ne_d (.lst (sql (know hl kA1)) (dp_ints ns)) (.lst (sql upd_same) .nil) (shaped_ints ns) rfl ?_
        walk_at "w"
        rw [nil_eqv]
        refine ⟨fun hb => ?_, fun hb => ?_⟩
        · have hne : ns ≠ [] := by
            intro z
            rw [z] at hb
            cases hb
          have hl0 : 0 < ns.length := by
            cases ns with
            | nil => exact absurd rfl hne
            | cons => exact Nat.succ_pos _
          have kA3 := know (o := .lst []) hl kA1
          have kP3 := know (o := .lst []) hl kP1
          walk_at "w"
          refine r_I (by rw [List.length_map]; omega) ?_
          obtain ⟨z, hz⟩ := at_mod ns i hl0
          refine r_ixL kA3 hz ?_
          walk_at "w"
          exact ⟨kP3, kA3⟩
        · walk_at "w"
          exact ⟨know hl kP1, know hl kA1⟩
      · rintro σ' kn' n' ⟨cell, rfl, kP2, kA2⟩
        have mod1 : ∀ x : Int, 0 ≤ x % many ∧ x % many < many := fun x => ⟨Int.emod_nonneg _ (by omega), Int.emod_lt_of_pos _ h0⟩
        walk_at "w"
        refine s_join (fun σ2 kn2 n2 => σ2 = [some (.ref p), some (.int many), none, some (.int i), some (.int cell), none, none] ∧ kn2 p = some (.lst [.ref a, .int (i + 1), .int g]) ∧ kn2 a = some (.lst (ns.map V.int))) ?_ ?_
        · refine s_if ?_
          walk_at "w"
          refine ⟨fun hb => ?_, fun hb => ?_⟩
          · walk_at "w"
            refine r_I ⟨by decide, by decide, by decide⟩ ?_
            walk_at "w"
            refine ⟨fun hb2 => ?_, fun hb2 => ?_⟩
            · have hc : (10 : Int) ^ (18 : Int).toNat ≤ if cell < 0 then -cell else cell := of_decide_eq_true hb2
              walk_at "w"
              refine r_I ⟨by decide, by decide, by decide⟩ ?_
              walk_at "w"
              refine r_I (.inl ⟨by decide, by decide⟩) ?_
              walk_at "w"
              refine r_I ⟨h0, hlog⟩ ?_
              walk_at "w"
              refine ⟨_, _, _, 2, rfl, rfl, kP2, rfl, ?_⟩
              walk_at "w"
              refine r_I h0 ?_
              refine done _ _ _ (i + 1) _ (mod1 _).1 (mod1 _).2 upd_same (by rw [upd_ne hpa.symm]; exact kA2) (by omega) (by omega) (Int.ediv_nonneg ?_ (by omega))
              split <;> omega
            · walk_at "w"
              exact ⟨rfl, kP2, kA2⟩
          · walk_at "w"
            exact ⟨rfl, kP2, kA2⟩
        · rintro σ2 kn2 n2 ⟨rfl, kP3, kA3⟩
          walk_at "w"
          refine r_I (by decide) ?_
          obtain ⟨x, hx⟩ : ∃ x : Int, x = cell % 2147483549 := ⟨_, rfl⟩
          have x0 : 0 ≤ x := hx ▸ Int.emod_nonneg _ (by decide)
          have x1 : x < 2147483549 := hx ▸ Int.emod_lt_of_pos _ (by decide)
          rw [← hx]
          walk_at "w"
          refine r_I (.inl ⟨by decide, by decide⟩) ?_
          walk_at "w"
          refine r_I ⟨by decide, by decide, by omega⟩ ?_
          walk_at "w"
          refine r_I (by decide) ?_
          generalize ((x + 51721 * i + 4483) ^ (5 : Int).toNat) = y
          obtain ⟨z, hz⟩ : ∃ z : Int, z = y % 2147483647 := ⟨_, rfl⟩
          have z0 : 0 ≤ z := hz ▸ Int.emod_nonneg _ (by decide)
          have z1 : z < 2147483647 := hz ▸ Int.emod_lt_of_pos _ (by decide)
          rw [← hz]
          walk_at "w"
          refine r_I (.inl ⟨by decide, by decide⟩) ?_
          walk_at "w"
          refine r_I (.inl ⟨by omega, by omega⟩) ?_
          walk_at "w"
          refine r_I (.inl ⟨by decide, by decide⟩) ?_
          walk_at "w"
          refine r_I (.inl ⟨by omega, by omega⟩) ?_
          walk_at "w"
          obtain ⟨m1, m2⟩ := mul_bd z0 (show z ≤ 2147483647 by omega) (show 0 ≤ 2 * i + 709 by omega) (show 2 * i + 709 ≤ 2000709 by omega)
          obtain ⟨m3, m4⟩ := mul_bd (show 0 ≤ 48017 * i by omega) (show 48017 * i ≤ 48017000000 by omega) hi0 (show i ≤ 1000000 by omega)
          refine r_I ⟨by decide, by decide, by omega⟩ ?_
          walk_at "w"
          refine r_I (by decide) ?_
          walk_at "w"
          refine r_I ⟨by decide, by decide⟩ ?_
          walk_at "w"
          refine r_I h0 ?_
          exact done _ _ _ (i + 1) g (mod1 _).1 (mod1 _).2 kP3 kA3 (by omega) (by omega) hg0

/-- _law_pick -/
def bPick : List V → Hp → AK → AXK → Prop := fun vs kn Q _ => ∃ l xs, vs = [.ref l] ∧ kn l = some (.lst xs) ∧ 0 < xs.length ∧ xs.length ≤ 1000 ∧ ∀ v ∈ xs, Q v kn
theorem mo_pick : MonoX bPick := by
  rintro vs kn Q R E F h1 h2 ⟨l, xs, a, b, c, d, h⟩
  exact ⟨l, xs, a, b, c, d, fun v hv => h1 _ _ (h v hv)⟩
theorem ok__law_pick (T : Tx K mg) (TT : List (Addr × Str)) : FnOk P w K mg base CX0 2 T.f__law_pick T.d__law_pick ["pen", "some"] (liftP TT 1 bPick) := by
  refine T.F__law_pick.ok sc__law_pick (fun vs H Q E h => ?_) (fun cdv A outer s H vs Q E hr h => ?_)
  · obtain ⟨p, a, ns, n, kn, ws, rfl, _, _, l, xs, rfl, _⟩ := h
    rfl
  · obtain ⟨p, a, ns, n, kn, ws, rfl, g, hn, l, xs, rfl, hl, l1, l2, h⟩ := h
    refine ⟨_, (pss_one (ps_ret (pe_ix (show IxR _ (rIxL K) from ix_list) (pv 1) (pe_call (ok__law_draw T) (hr.mono (by decide)) (by rfl) T.g__law_draw T.F__law_draw.kp T.bd__law_draw .nil pass0 (pa_cons (pv 0) (pa_cons (pe_callB c_len (by rfl) T.b_len PySem.boot_len (pa_cons (pv 1) pa_nil)) pa_nil))) (fun _ _ => rfl)))), ?_⟩
    refine body_of g ?_
    walk_at "w"
    refine w_draw ?_
    walk_at "w"
    refine ⟨by omega, by omega, by omega, fun k k0 k1 => ?_⟩
    obtain ⟨j, hj⟩ : ∃ j : Nat, k = j := ⟨k.toNat, by omega⟩
    subst hj
    have hj : j < xs.length := by omega
    refine r_ixL hl (atI_nat (List.getElem?_eq_getElem hj)) ?_
    exact h _ (List.getElem_mem hj)
/-- _law_pen -/
def spPen (K : PySem.W.Frag) : Sp := fun vs H Q _ => ∃ (s : Addr) (ns : List Int), vs = [.ref s] ∧ SqL K H s (ns.map V.int) ∧
  ∀ (p a : Addr) (ns' : List Int) (H' : Hp), p ≠ a → H p = none → H a = none → H' p = some (.lst [.ref a, .int 0, .int 0]) → H' a = some (.lst (ns'.map V.int)) → Ext H H' → Q (.ref p) H'
theorem cut_map (ns : List Int) (lo hi : Option Int) : ∃ ns' : List Int, cutV (ns.map V.int) lo hi = ns'.map V.int := by
  unfold cutV
  exact ⟨(ns.drop _).take _, by rw [List.map_take, List.map_drop]⟩
theorem ok__law_pen (T : Tx K mg) : FnOk P w K mg base CX0 1 T.f__law_pen T.d__law_pen ["script"] (spPen K) := by
  refine T.F__law_pen.ok sc__law_pen (fun vs H Q E h => ?_) (fun cdv A outer s H vs Q E hr h => ?_)
  · obtain ⟨s, ns, rfl, _⟩ := h
    rfl
  · obtain ⟨sc, ns, rfl, hs, h⟩ := h
    refine ⟨_, (pss_one (ps_ret (pe_lst (pa_cons (pe_callTy c_list (by rfl) T.b_list (by decide +kernel) (pa_cons (pe_slice (show SlR _ (rSlL K) from sl_list) (pv 0) po_none (po_some pe_int)) pa_nil)) (pa_cons pe_int (pa_cons pe_int pa_nil)))))), ?_⟩
    obtain ⟨ns', e⟩ := cut_map ns none (some 63)
    refine ⟨_, rfl, _, rfl, sc, _, rfl, hs, fun l hl => ⟨l, _, rfl, .inl (sql upd_same), fun a ha => ⟨(by rw [sizeLine_eq]; exact (show 3 ≤ 16777216 by decide)), fun p hp => ?_⟩⟩⟩
    have la : l ≠ a := fun z => by rw [z, upd_same] at ha; cases ha
    have ha0 : H a = none := by rw [upd_ne (Ne.symm la)] at ha; exact ha
    have pa : p ≠ a := fun z => by rw [z, upd_same] at hp; cases hp
    have pl : p ≠ l := fun z => by rw [z, upd_ne la, upd_same] at hp; cases hp
    have hp0 : H p = none := by rw [upd_ne pa, upd_ne pl] at hp; exact hp
    refine h p a ns' _ pa hp0 ha0 upd_same ?_ ?_
    · rw [upd_ne (Ne.symm pa), upd_same, e]
    · exact fun x o hx => by rw [upd_ne (ne_of_none hx hp0), upd_ne (ne_of_none hx ha0), upd_ne (ne_of_none hx hl)]; exact hx
end

end NN

namespace NN
open PySem PySem.Spec PyProof.Rows L2 LamX AW ClX
/-! ### in; a stay; odd values -/
def tabsT {K : PySem.W.Frag} {mg : Str → Option Value} (T : Tx K mg) : List (Addr × Str) := [(T.tp_law, "law.<locals>.<lambda>")]
theorem tabs_law {K : PySem.W.Frag} {mg : Str → Option Value} (T : Tx K mg) : ∀ p ∈ tabsT T, p.1 = T.tp_law → p.2 = "law.<locals>.<lambda>" := by
  intro p hp e
  rcases List.mem_cons.mp hp with rfl | hp
  · rfl
  · cases hp
/-- what is made, its name -/
theorem w_gen {α : Type} {c : Cw} {t : Hp → (α → Hp → Prop) → Prop} {k : Hp} {b : Addr} {o : HO} {n : Nat} {Q : α → Hp → Nat → Prop} (hb : k b = none) (h : ∀ k1, Ext k k1 → k1 b = some o → W c t k1 n Q) : W c t (upd k b o) n Q := h _ (ext_new hb) upd_same
theorem ws_gen {c : Cw} {b : TS} {E : AE} {σ : L2.St} {k : Hp} {a : Addr} {o : HO} {n : Nat} (hb : k a = none) (h : ∀ k1, Ext k k1 → k1 a = some o → WS c b E σ k1 n) : WS c b E σ (upd k a o) n := h _ (ext_new hb) upd_same
theorem kput {kb k : Hp} {l : Addr} {o : HO} (h : kb l = none) (e : Ext kb k) : Ext kb (upd k l o) := fun y v hy => by
  rw [upd_ne (fun z => by rw [z, h] at hy; cases hy)]
  exact e y v hy
theorem w_din {c : Cw} {kn : Hp} {n : Nat} {σ : L2.St} {Q : V → Hp → Nat → Prop} {ty td : TE} (h : W c (ty σ) kn n fun y kn1 n1 => W c (td σ) kn1 n1 fun x kn2 n2 => ∃ (a : Addr) (kvs : List (Key × V)) (z : Str), x = .ref a ∧ y = .str z ∧ kn2 a = some (.dK kvs) ∧ Q (.bl (valV kvs (.inr z)).isSome) kn2 n2) : W c (tDIn ty td σ) kn n Q :=
  fun H g Q' q => h H g _ fun y kn1 n1 H1 h1 g1 => h1 H1 g1 _ fun x kn2 n2 H2 ⟨a, kvs, z, e1, e2, hd, hq⟩ g2 =>
    ⟨a, _, e1, by subst e2; exact DGet.k (k := .inr z) (g2.ex _ _ hd), q _ _ _ _ hq g2⟩
def bHasC (C : Addr) : List V → Hp → AK → AXK → Prop := fun vs kn Q _ => ∃ s r f e z, vs = [.ref s, .str z] ∧ CalAt C kn s r f e ∧ Q (.bl false) kn
theorem mo_hasC {C : Addr} : MonoX (bHasC C) := by
  rintro vs kn Q R E F h1 h2 ⟨s, r, f, e, z, a, b, h⟩
  exact ⟨s, r, f, e, z, a, b, h1 _ _ h⟩
abbrev stayF (f e : Int) (q : Addr) : List (Str × V) := [("first", .int f), ("after", .int e), ("_nights", .ref q)]
def bStay (C : Addr) : List V → Hp → AK → AXK → Prop := fun vs kn Q _ => ∃ a dx, vs = [.ref a, .int 0, .int 1] ∧ kn a = some (.ins C dx []) ∧ ∀ q, kn q = none → Q .non (upd (upd kn q (.tup (rgV 0 1))) a (.ins C dx (stayF 0 1 q)))
theorem mo_stay {C : Addr} : MonoX (bStay C) := by
  rintro vs kn Q R E F h1 h2 ⟨a, dx, b, c, h⟩
  exact ⟨a, dx, b, c, fun q hq => h1 _ _ (h q hq)⟩
theorem upd3 {kn : Hp} {a q : Addr} {o1 o2 o3 o4 : HO} : upd (upd (upd (upd kn a o1) a o2) q o3) a o4 = upd (upd kn q o3) a o4 := by
  funext x
  by_cases h1 : x = a
  · subst h1; rw [upd_same, upd_same]
  · rw [upd_ne h1, upd_ne h1]
    by_cases h2 : x = q
    · subst h2; rw [upd_same, upd_same]
    · rw [upd_ne h2, upd_ne h2, upd_ne h1, upd_ne h1]
section
variable {P : Program} {w : World} {K : PySem.W.Frag} {mg : Str → Option Value} {base : Heap}
theorem ok_Calendar___contains__ (T : Tx K mg) : FnOk P w K mg base CX0 1 T.f_Calendar___contains__ T.d_Calendar___contains__ ["self", "x"] (liftX (bHasC T.c_Calendar)) := by
  refine T.F_Calendar___contains__.ok sc_Calendar___contains__ (fun vs H Q E h => ?_) (fun cdv A outer s H vs Q E hr h => ?_)
  · obtain ⟨kn, _, _, a, r, f, e, z, rfl, _⟩ := h
    rfl
  · obtain ⟨kn, ex, nt, a, r, f, e, z, rfl, st, h⟩ := h
    refine ⟨_, (pss_one (ps_ret (pe_and (pe_callB call_isi (by rfl) T.b_isinstance (by decide +kernel) (pa_cons (pv 1) (pa_cons (pe_bltn (v := .ty "str") (u := .type "str") (by rfl) T.b_str (by decide +kernel) rfl) pa_nil))) (pe_one (pe_cmp (pc_din (hu_of hr) (pv 1) (pe_fld (pv 0) rfl))))))), ?_⟩
    refine body_of (pure_start ex nt) ?_
    walk_at "wi"
    refine r_isi (.ty _) (.base (.str z)) (kit_ty rfl) ?_
    walk_at "wi"
    refine w_din (w_var rfl (w_stays T.cl_Calendar T.na_Calendar__stays rfl st fun d hd => ⟨d, [], z, rfl, rfl, hd, ?_⟩))
    exact h 0
theorem ok_Stay___init__ (T : Tx K mg) : FnOk P w K mg base CX0 4 T.f_Stay___init__ T.d_Stay___init__ ["self", "first", "after"] (liftX (bStay T.c_Stay)) := by
  refine T.F_Stay___init__.ok sc_Stay___init__ (fun vs H Q E h => ?_) (fun cdv A outer s H vs Q E hr h => ?_)
  · obtain ⟨kn, _, _, a, dx, rfl, _⟩ := h
    rfl
  · obtain ⟨kn, ex, nt, a, dx, rfl, ha, h⟩ := h
    refine ⟨_, (pss_cons (ps_if (pt_not (pt_val (pe_call (ok_is_day T) (hr.mono (by decide)) (by rfl) T.g_is_day T.F_is_day.kp T.bd_is_day .nil pass0 (pa_cons (pv 1) pa_nil))))
       (pss_one ps_never)
       pss_nil)
       (pss_cons (ps_if (PW.pt (pw_or (pt_not (pt_val (pe_call (ok_is_day T) (hr.mono (by decide)) (by rfl) T.g_is_day T.F_is_day.kp T.bd_is_day .nil pass0 (pa_cons (pv 2) pa_nil)))) (pw_or1 (pt_not (pt_chain op_lt op_le (pv 1) (pv 2) (pe_op op_add (pv 1) (pe_cval (pe_glob (v := .ref T.c_Stay) (by rfl) T.g_Stay rfl))))))))
       (pss_one ps_never)
       pss_nil)
       (pss_cons (ps_fld (pv 0) (pv 1) rfl)
       (pss_cons (ps_fld (pv 0) (pv 2) rfl)
       (pss_one (ps_fld (pv 0) (pe_tupRg rfl (by rfl) T.b_tuple (prg_2 (by rfl) T.b_range (pv 1) (pv 2))) rfl)))))), ?_⟩
    obtain ⟨mu, hmu⟩ := T.cv_Stay_MOST
    refine body_of (pure_start ex nt) ?_
    walk_at "wi"
    refine w_call mo_day err_no ?_
    walk_at "wi"
    refine w_day (.inl ⟨0, rfl, ⟨by decide, by decide⟩, ?_⟩)
    walk_at "wi"
    refine w_call mo_day err_no ?_
    walk_at "wi"
    refine w_day (.inl ⟨1, rfl, ⟨by decide, by decide⟩, ?_⟩)
    walk_at "wi"
    refine ⟨fun hb => ?_, fun hb => absurd hb (by decide)⟩
    walk_at "wi"
    refine ⟨_, _, _, _, rfl, T.cr_Stay, hmu, ?_⟩
    walk_at "wi"
    rw [decide_eq_true (show (1 : Int) ≤ 0 + 400 by decide)]
    walk_at "wi"
    refine ⟨_, _, _, _, rfl, ha, T.cl_Stay, T.na_Stay_first, by decide, ?_⟩
    walk_at "wi"
    refine ⟨_, _, _, _, rfl, upd_same, T.cl_Stay, T.na_Stay_after, (show 1 < 1000 by decide), ?_⟩
    walk_at "wi"
    refine ⟨_, _, rfl, rfl, ⟨by decide, by decide, by decide, by decide⟩, fun q hq => ?_⟩
    walk_at "wi"
    refine ⟨_, _, _, _, rfl, keep2 (ne_of_none upd_same hq) upd_same, T.cl_Stay, T.na_Stay__nights, (show 2 < 1000 by decide), ?_⟩
    have hq2 : kn q = none := by
      by_cases z : q = a
      · rw [z, upd_same] at hq; cases hq
      · rw [upd_ne z, upd_ne z] at hq; exact hq
    rw [upd3]
    exact h q hq2 0
theorem w_stay1 {c : Cw} {kn : Hp} {n : Nat} {σ : L2.St} {Q : V → Hp → Nat → Prop} {E : XK} {C : Addr} {t : TA}
    (h : W c (t σ) kn n fun vs kn1 n1 => vs = [.int 0, .int 1] ∧ ∀ x kn' dx fs, Ext kn1 kn' → kn1 x = none → kn' x = some (.ins C dx fs) → Q (.ref x) kn' n1) : W c (tMake C (liftX (bStay C)) [] E t σ) kn n Q := by
  refine w_make (EA := fun _ _ _ _ => False) mo_stay err_no (h.mono fun vs kn1 n1 hv => ?_)
  obtain ⟨rfl, h⟩ := hv
  intro x dx hx hdx hne
  have hx2 : upd kn1 dx (.own x) x = none := by rw [upd_ne (Ne.symm hne)]; exact hx
  refine ⟨x, dx, rfl, upd_same, fun q hq => ⟨rfl, h x _ dx _ ?_ hx upd_same⟩⟩
  intro y o hy
  have y1 : y ≠ x := fun z => by rw [z, hx] at hy; cases hy
  have y2 : y ≠ dx := fun z => by rw [z, hdx] at hy; cases hy
  have y3 : y ≠ q := fun z => by rw [← z, upd_ne y1, upd_ne y2, hy] at hq; cases hq
  rw [upd_ne y1, upd_ne y3, upd_ne y1, upd_ne y2]
  exact hy
end
def bOddV (K : PySem.W.Frag) : List V → Hp → AK → AXK → Prop := fun vs kn Q _ => vs = [] ∧ ∀ v k', Ext kn k' → NotDay K k' v → Q v k'
theorem mo_oddV {K : PySem.W.Frag} : MonoX (bOddV K) := by
  rintro vs kn Q R E F h1 h2 ⟨z1, h⟩
  exact ⟨z1, fun v k x y => h1 _ _ (h v k x y)⟩
section
variable {P : Program} {w : World} {K : PySem.W.Frag} {mg : Str → Option Value} {base : Heap}
theorem ok__law_odd (T : Tx K mg) : FnOk P w K mg base CX0 6 T.f__law_odd T.d__law_odd ["pen"] (liftP (tabsT T) 1 (bOddV K)) := by
  refine T.F__law_odd.ok sc__law_odd (fun vs H Q E h => ?_) (fun cdv A outer s H vs Q E hr h => ?_)
  · obtain ⟨p, a, ns, n, kn, ws, rfl, _, _, rfl, _⟩ := h
    rfl
  · obtain ⟨p, a, ns, n, kn, ws, rfl, g, hn, rfl, h⟩ := h
    refine ⟨_, (pss_one (ps_ret (pe_call (ok__law_pick T (tabsT T)) (hr.mono (by decide)) (by rfl) T.g__law_pick T.F__law_pick.kp T.bd__law_pick .nil pass0 (pa_cons (pv 0) (pa_cons (pe_lst (pa_cons pe_non (pa_cons pe_bl (pa_cons pe_bl (pa_cons pe_str (pa_cons pe_str (pa_cons (pe_tup (pa_cons pe_int pa_nil)) (pa_cons (pe_lst (pa_cons pe_int pa_nil)) (pa_cons pe_dnewK (pa_cons (pe_make T.mk_Stay (ok_Stay___init__ T) (hr.mono (by decide)) (by rfl) T.g_Stay T.bd_Stay___init__ .nil pass0 (pa_cons pe_int (pa_cons pe_int pa_nil))) (pa_cons (pe_disp (pps_cons pe_int pe_int pps_nil) rfl rfl (by simp) (by decide)) (pa_cons (pe_op op_pow pe_int pe_int) (pa_cons (pe_un un_neg (pe_op op_pow pe_int pe_int)) pa_nil))))))))))))) pa_nil))))), ?_⟩
    refine body_of g ?_
    walk_at "w"
    refine w_callP mo_pick err_no ?_
    walk_at "w"
    refine ⟨show 1 ≤ 1000 by decide, fun b1 hb1 => w_gen hb1 fun k1 e1 f1 => ?_⟩
    walk_at "w"
    refine ⟨show 1 ≤ 1000 by decide, fun b2 hb2 => w_gen hb2 fun k2 e2 f2 => ?_⟩
    walk_at "w"
    refine w_dnew fun b3 hb3 => w_gen hb3 fun k3 e3 f3 => ?_
    refine w_cons (w_stay1 ?_)
    walk_at "w"
    refine ⟨rfl, fun x k4 dx fs e4 _ f4 => ?_⟩
    refine w_cons (w_dict1 fun b5 hb5 => ?_)
    walk_at "w"
    refine ⟨.inl 1, rfl, upd_same, ?_⟩
    have e5 : Ext k4 (upd (upd k4 b5 (.dK [])) b5 (.dK (mergeK [] [(.inl 1, .int 2)]))) := kput hb5 (ext_new hb5)
    have f5 : (upd (upd k4 b5 (.dK [])) b5 (.dK (mergeK [] [(.inl 1, .int 2)]))) b5 = some (.dK (mergeK [] [(.inl 1, .int 2)])) := upd_same
    generalize (upd (upd k4 b5 (.dK [])) b5 (.dK (mergeK [] [(.inl 1, .int 2)]))) = k5 at e5 f5 ⊢
    walk_at "w"
    refine r_I ⟨by decide, by decide, by decide⟩ ?_
    walk_at "w"
    refine r_I ⟨by decide, by decide, by decide⟩ ?_
    walk_at "w"
    refine ⟨show 12 ≤ 1000 by decide, fun l hl => w_gen hl fun k6 e6 f6 => ?_⟩
    walk_at "w"
    refine ⟨by omega, _, _, rfl, f6, show 0 < 12 by decide, show 12 ≤ 1000 by decide, fun v hv => ?_⟩
    refine h v k6 (ext_tr e1 (ext_tr e2 (ext_tr e3 (ext_tr e4 (ext_tr e5 e6))))) ?_
    have x2 := ext_tr e2 (ext_tr e3 (ext_tr e4 (ext_tr e5 e6)))
    have x3 := ext_tr e3 (ext_tr e4 (ext_tr e5 e6))
    have x4 := ext_tr e4 (ext_tr e5 e6)
    have x5 := ext_tr e5 e6
    simp only [List.mem_cons, List.mem_nil_iff, or_false] at hv
    rcases hv with rfl | rfl | rfl | rfl | rfl | rfl | rfl | rfl | rfl | rfl | rfl | rfl
    · exact .inr ⟨_, false, .base .non, kit_ty rfl, fun z => nomatch z⟩
    · exact .inr ⟨_, true, .base (.bl _), kit_ty rfl, fun _ => kit_ty rfl⟩
    · exact .inr ⟨_, true, .base (.bl _), kit_ty rfl, fun _ => kit_ty rfl⟩
    · exact .inr ⟨_, false, .base (.str _), kit_ty rfl, fun z => nomatch z⟩
    · exact .inr ⟨_, false, .base (.str _), kit_ty rfl, fun z => nomatch z⟩
    · exact .inr ⟨_, false, .base (.tup (x2 _ _ f1)), kit_ty rfl, fun z => nomatch z⟩
    · exact .inr ⟨_, false, .base (.lst (x3 _ _ f2)), kit_ty rfl, fun z => nomatch z⟩
    · exact .inr ⟨_, false, .base (.dK (x4 _ _ f3)), kit_ty rfl, fun z => nomatch z⟩
    · exact .inr ⟨_, false, T.own_Stay.ty (x5 _ _ f4), T.kit_Stay_int, fun z => nomatch z⟩
    · exact .inr ⟨_, false, .base (.dK (e6 _ _ f5)), kit_ty rfl, fun z => nomatch z⟩
    · exact .inl ⟨_, rfl, fun z => absurd z.2 (by decide +kernel)⟩
    · exact .inl ⟨_, rfl, fun z => absurd z.1 (by decide +kernel)⟩
end

end NN

namespace NN
open PySem PySem.Spec PyProof.Rows L2 LamX AW ClX
/-! ### is_day, wrong -/
def bLDay (K : PySem.W.Frag) : List V → Hp → AK → AXK → Prop := fun vs kn Q _ => ∃ x, vs = [x] ∧ ((∃ i, x = .int i ∧ isDay i ∧ Q (.bl true) kn) ∨ (NotDay K kn x ∧ Q (.bl false) kn))
theorem mo_lday {K : PySem.W.Frag} : MonoX (bLDay K) := by
  rintro vs kn Q R E F h1 h2 ⟨x, a, ⟨i, b, c, h⟩ | ⟨b, h⟩⟩
  · exact ⟨x, a, .inl ⟨i, b, c, h1 _ _ h⟩⟩
  · exact ⟨x, a, .inr ⟨b, h1 _ _ h⟩⟩
def WrongIs (K : PySem.W.Frag) (kn : Hp) (x y z r : V) : Prop :=
  (∃ a b c, x = .int a ∧ y = .int b ∧ z = .int c ∧ isRm a ∧ isDay b ∧ isDay c ∧ b < c ∧ c ≤ b + 40 ∧ r = .non) ∨ (NotRm K kn x ∧ r = .str "rooms") ∨ (∃ a, x = .int a ∧ isRm a ∧ NotDay K kn y ∧ r = .str "first") ∨
  (∃ a b, x = .int a ∧ isRm a ∧ y = .int b ∧ isDay b ∧ (NotDay K kn z ∨ ∃ c, z = .int c ∧ isDay c ∧ ¬(b < c ∧ c ≤ b + 40)) ∧ r = .str "after")
def bWrong (K : PySem.W.Frag) : List V → Hp → AK → AXK → Prop := fun vs kn Q _ => ∃ x y z r, vs = [x, y, z] ∧ WrongIs K kn x y z r ∧ Q r kn
theorem mo_wrong {K : PySem.W.Frag} : MonoX (bWrong K) := by
  rintro vs kn Q R E F h1 h2 ⟨x, y, z, r, a, b, h⟩
  exact ⟨x, y, z, r, a, b, h1 _ _ h⟩
section
variable {P : Program} {w : World} {K : PySem.W.Frag} {mg : Str → Option Value} {base : Heap}
theorem ok__law_is_day (T : Tx K mg) : FnOk P w K mg base CX0 1 T.f__law_is_day T.d__law_is_day ["value"] (liftX (bLDay K)) := by
  refine T.F__law_is_day.ok sc__law_is_day (fun vs H Q E h => ?_) (fun cdv A outer s H vs Q E hr h => ?_)
  · obtain ⟨kn, _, _, x, rfl, _⟩ := h
    rfl
  · obtain ⟨kn, ex, nt, x, rfl, h⟩ := h
    have p12 : (10 : Int) ^ (12 : Int).toNat = 1000000000000 := by decide +kernel
    refine ⟨_, (pss_one (ps_ret (pe_and (pe_callB call_isi (by rfl) T.b_isinstance (by decide +kernel) (pa_cons (pv 0) (pa_cons (pe_bltn (v := .ty "int") (u := .type "int") (by rfl) T.b_int (by decide +kernel) rfl) pa_nil))) (pe_and (pe_not (pe_callB call_isi (by rfl) T.b_isinstance (by decide +kernel) (pa_cons (pv 0) (pa_cons (pe_bltn (v := .ty "bool") (u := .type "bool") (by rfl) T.b_bool (by decide +kernel) rfl) pa_nil)))) (pe_one (pe_cmpR op_lt (pe_callB c_abs (by rfl) T.b_abs (by decide +kernel) (pa_cons (pv 0) pa_nil)) (pe_op op_pow pe_int pe_int) (nomark _))))))), ?_⟩
    refine body_of (pure_start ex nt) ?_
    walk_at "wi"
    rcases h with ⟨i, rfl, d, h⟩ | ⟨⟨i, rfl, d⟩ | ⟨t, bi, ty, e1, e2⟩, h⟩
    · refine r_isi (.ty _) (.base (.int i)) (kit_ty rfl) ?_
      walk_at "wi"
      refine r_isi (.ty _) (.base (.int i)) (kit_ty rfl) ?_
      walk_at "wi"
      refine ⟨fun _ => ?_, fun z => absurd z (by decide)⟩
      walk_at "wi"
      refine r_I ⟨by decide, by decide, by decide⟩ ?_
      walk_at "wi"
      rw [p12, decide_eq_true (show (if i < 0 then -i else i) < 1000000000000 by have d1 : -999999999999 ≤ i := d.1; have d2 : i ≤ 999999999999 := d.2; split <;> omega)]
      exact h 0
    · refine r_isi (.ty _) (.base (.int i)) (kit_ty rfl) ?_
      walk_at "wi"
      refine r_isi (.ty _) (.base (.int i)) (kit_ty rfl) ?_
      walk_at "wi"
      refine ⟨fun _ => ?_, fun z => absurd z (by decide)⟩
      walk_at "wi"
      refine r_I ⟨by decide, by decide, by decide⟩ ?_
      walk_at "wi"
      rw [p12, decide_eq_false (show ¬ (if i < 0 then -i else i) < 1000000000000 by intro z; split at z <;> exact d ⟨show -999999999999 ≤ i by omega, show i ≤ 999999999999 by omega⟩)]
      exact h 0
    · refine r_isi (.ty _) ty e1 ?_
      walk_at "wi"
      refine ⟨fun hb => ?_, fun hb => h 0⟩
      walk_at "wi"
      refine r_isi (.ty _) ty (e2 hb) ?_
      walk_at "wi"
      exact h 0
theorem ok__law_wrong (T : Tx K mg) : FnOk P w K mg base CX0 2 T.f__law_wrong T.d__law_wrong ["number", "start", "goal"] (liftX (bWrong K)) := by
  refine T.F__law_wrong.ok sc__law_wrong (fun vs H Q E h => ?_) (fun cdv A outer s H vs Q E hr h => ?_)
  · obtain ⟨kn, _, _, x, y, z, r, rfl, _⟩ := h
    rfl
  · obtain ⟨kn, ex, nt, x, y, z, r, rfl, hw, h⟩ := h
    refine ⟨_, (pss_cons (ps_if (PW.pt (pw_or (pt_not (pt_val (pe_callB call_isi (by rfl) T.b_isinstance (by decide +kernel) (pa_cons (pv 0) (pa_cons (pe_bltn (v := .ty "int") (u := .type "int") (by rfl) T.b_int (by decide +kernel) rfl) pa_nil))))) (pw_or (pt_val (pe_callB call_isi (by rfl) T.b_isinstance (by decide +kernel) (pa_cons (pv 0) (pa_cons (pe_bltn (v := .ty "bool") (u := .type "bool") (by rfl) T.b_bool (by decide +kernel) rfl) pa_nil)))) (pw_or1 (pt_not (pt_chain op_le op_le pe_int (pv 0) pe_int))))))
       (pss_one (ps_ret pe_str))
       pss_nil)
       (pss_cons (ps_if (pt_not (pt_val (pe_call (ok__law_is_day T) (hr.mono (by decide)) (by rfl) T.g__law_is_day T.F__law_is_day.kp T.bd__law_is_day .nil pass0 (pa_cons (pv 1) pa_nil))))
       (pss_one (ps_ret pe_str))
       pss_nil)
       (pss_one (ps_ret (pe_ifExp (PW.pt (pw_and (pt_val (pe_call (ok__law_is_day T) (hr.mono (by decide)) (by rfl) T.g__law_is_day T.F__law_is_day.kp T.bd__law_is_day .nil pass0 (pa_cons (pv 2) pa_nil))) (pw_and1 (pt_chain op_lt op_le (pv 1) (pv 2) (pe_op op_add (pv 1) pe_int))))) pe_non pe_str))))), ?_⟩
    refine body_of (pure_start ex nt) ?_
    walk_at "wi"
    have yes : ∀ {p : Prop} [Decidable p] {A : Prop}, p → decide p = false → A := fun a b => absurd (decide_eq_true a) (by rw [b]; exact Bool.false_ne_true)
    rcases hw with ⟨a, b, c, rfl, rfl, rfl, ra, db, dc, l1, l2, rfl⟩ | ⟨⟨i, rfl, ni⟩ | ⟨t, bi, ty, e1, e2⟩, rfl⟩ | ⟨a, rfl, ra, nd, rfl⟩ | ⟨a, b, rfl, ra, rfl, db, nd, rfl⟩
    · refine r_isi (.ty _) (.base (.int a)) (kit_ty rfl) ?_
      walk_at "wi"
      refine r_isi (.ty _) (.base (.int a)) (kit_ty rfl) ?_
      walk_at "wi"
      refine ⟨fun _ => ?_, fun z => absurd z (by decide)⟩
      walk_at "wi"
      refine ⟨fun _ => ?_, fun z => yes ra.1 z⟩
      walk_at "wi"
      refine ⟨fun z => absurd (decide_eq_true ra.2) (by rw [Bool.not_eq_true'] at z; rw [z]; exact Bool.false_ne_true), fun _ => ?_⟩
      walk_at "wi"
      refine w_call mo_lday err_no ?_
      walk_at "wi"
      refine ⟨_, rfl, .inl ⟨b, rfl, db, ?_⟩⟩
      walk_at "wi"
      refine w_call mo_lday err_no ?_
      walk_at "wi"
      refine ⟨_, rfl, .inl ⟨c, rfl, dc, ?_⟩⟩
      walk_at "wi"
      refine ⟨fun _ => ?_, fun z => yes l1 z⟩
      walk_at "wi"
      rw [decide_eq_true l2]
      refine ⟨fun _ => ?_, fun z => nomatch z⟩
      walk_at "wi"
      exact h 0
    · refine r_isi (.ty _) (.base (.int i)) (kit_ty rfl) ?_
      walk_at "wi"
      refine r_isi (.ty _) (.base (.int i)) (kit_ty rfl) ?_
      walk_at "wi"
      refine ⟨fun _ => ?_, fun z => absurd z (by decide)⟩
      walk_at "wi"
      refine ⟨fun q1 => ?_, fun _ => ?_⟩
      · walk_at "wi"
        rw [decide_eq_false (show ¬ i ≤ 12 from fun q => ni ⟨of_decide_eq_true q1, q⟩)]
        refine ⟨fun _ => ?_, fun z => nomatch z⟩
        walk_at "wi"
        exact h 0
      · refine ⟨_, rfl, fun _ => ?_, fun z => nomatch z⟩
        walk_at "wi"
        exact h 0
    · refine r_isi (.ty _) ty e1 ?_
      walk_at "wi"
      refine ⟨fun hb => ?_, fun hb => ?_⟩
      · walk_at "wi"
        refine r_isi (.ty _) ty (e2 (by simpa using hb)) ?_
        walk_at "wi"
        exact h 0
      · walk_at "wi"
        exact h 0
    · refine r_isi (.ty _) (.base (.int a)) (kit_ty rfl) ?_
      walk_at "wi"
      refine r_isi (.ty _) (.base (.int a)) (kit_ty rfl) ?_
      walk_at "wi"
      refine ⟨fun _ => ?_, fun z => absurd z (by decide)⟩
      walk_at "wi"
      refine ⟨fun _ => ?_, fun z => yes ra.1 z⟩
      walk_at "wi"
      refine ⟨fun z => absurd (decide_eq_true ra.2) (by rw [Bool.not_eq_true'] at z; rw [z]; exact Bool.false_ne_true), fun _ => ?_⟩
      walk_at "wi"
      refine w_call mo_lday err_no ?_
      walk_at "wi"
      refine ⟨_, rfl, .inr ⟨nd, ?_⟩⟩
      walk_at "wi"
      exact h 0
    · refine r_isi (.ty _) (.base (.int a)) (kit_ty rfl) ?_
      walk_at "wi"
      refine r_isi (.ty _) (.base (.int a)) (kit_ty rfl) ?_
      walk_at "wi"
      refine ⟨fun _ => ?_, fun z => absurd z (by decide)⟩
      walk_at "wi"
      refine ⟨fun _ => ?_, fun z => yes ra.1 z⟩
      walk_at "wi"
      refine ⟨fun z => absurd (decide_eq_true ra.2) (by rw [Bool.not_eq_true'] at z; rw [z]; exact Bool.false_ne_true), fun _ => ?_⟩
      walk_at "wi"
      refine w_call mo_lday err_no ?_
      walk_at "wi"
      refine ⟨_, rfl, .inl ⟨b, rfl, db, ?_⟩⟩
      walk_at "wi"
      refine w_call mo_lday err_no ?_
      walk_at "wi"
      rcases nd with nd | ⟨c, rfl, dc, nl⟩
      · refine ⟨_, rfl, .inr ⟨nd, ?_⟩⟩
        walk_at "wi"
        exact h 0
      · refine ⟨_, rfl, .inl ⟨c, rfl, dc, ?_⟩⟩
        walk_at "wi"
        refine ⟨fun q1 => ?_, fun _ => ?_⟩
        · walk_at "wi"
          rw [decide_eq_false (show ¬ c ≤ b + 40 from fun q => nl ⟨of_decide_eq_true q1, q⟩)]
          refine ⟨(fun z => nomatch z), fun _ => ?_⟩
          walk_at "wi"
          exact h 0
        · refine ⟨_, rfl, (fun z => nomatch z), fun _ => ?_⟩
          walk_at "wi"
          exact h 0
end
/-! ### heard -/
section
variable {P : Program} {w : World} {K : PySem.W.Frag} {mg : Str → Option Value} {base : Heap}
theorem put_exh {k : Hp} {l a c : Addr} {xs : List V} {d : Option Addr} {o : HO} (hl : k l = some (.lst xs)) (h : k a = some (exh a (.ref c) d)) : upd k l o a = some (exh a (.ref c) d) := by
  rw [upd_ne (fun z => by rw [z, hl] at h; cases h)]
  exact h
theorem put_xd {k : Hp} {l a : Addr} {xs : List V} {fs : List (Str × V)} {o : HO} (hl : k l = some (.lst xs)) (h : k a = some (.xd fs)) : upd k l o a = some (.xd fs) := by
  rw [upd_ne (fun z => by rw [z, hl] at h; cases h)]
  exact h
theorem put_tup {k : Hp} {l a : Addr} {xs ys : List V} {o : HO} (hl : k l = some (.lst xs)) (h : k a = some (.tup ys)) : upd k l o a = some (.tup ys) := by
  rw [upd_ne (fun z => by rw [z, hl] at h; cases h)]
  exact h
theorem gname_run {i : Nat} {v : V} {σ : L2.St} {H : Hp} {N : L2.St → Hp → Prop} (h : N (σ.set i (some v)) H) : gName i v σ H N := h
theorem gives_heard (T : Tx K mg) {X : Cx} {q : Str} {cdg : Value} (hP : X.prog = P) (hw : X.w = w) (hK : X.K = K) (hmg : X.mg = mg) : GivesTo X ["ask", "caught", "found", "error", "some"] "_law_heard" (defScope s__law_heard) T.f__law_heard cdg (defBody s__law_heard) "ask" q (TTh T.c_BadCalendar "calendar") := by
  subst hP hw hK hmg
  intro f c' s H Q tl hask hc hTT
  obtain ⟨c, kn, n, QA, g, hQ, hb⟩ := hTT
  refine ⟨_, (pss_cons (ps_asg (pe_tup (pa_cons pe_non (pa_cons pe_non pa_nil))) (pg_tup (by rfl) (pgs_cons (pg_name (i := 1) sc__law_heard.nd rfl (by first | exact Or.inl rfl | exact Or.inr rfl)) (pgs_cons (pg_name (i := 2) sc__law_heard.nd rfl (by first | exact Or.inl rfl | exact Or.inr rfl)) pgs_nil))))
       (pss_cons (ps_try_keep (i := 3) rfl rfl rfl sc__law_heard.nd rfl rfl ⟨(by rfl), (by decide), .inl T.g_StayError⟩ (fun W pn xe tk po =>
       (pss_one (ps_set (i := 2) sc__law_heard.nd rfl (by first | exact Or.inl rfl | exact Or.inr rfl) (hask (fun cls d σ H => σ.length = 5 → W cls d σ H) _ _ (fun cls d H' => ∀ σ', σ'.length = 5 → W cls d σ' H') _ _ (takes_len tk) (fun _ _ σ' _ h hl => h σ' hl))))) (fun aX oX clsX dX pnX zX vX =>
       (pss_one (ps_set (i := 1) sc__law_heard.nd rfl (by first | exact Or.inl rfl | exact Or.inr rfl) (pv 3)))))
       (pss_cons (ps_if (pt_cmpR c_isN (pv 1) pe_non (nomark _))
       (pss_one (ps_ret (pe_lst (pa_cons (pv 2) pa_nil))))
       pss_nil)
       (pss_cons (ps_set (i := 4) sc__law_heard.nd rfl (by first | exact Or.inl rfl | exact Or.inr rfl) (pe_lst pa_nil))
       (pss_cons (ps_if (pt_val (pe_callB call_isK (by rfl) T.b_isinstance (by decide +kernel) (pa_cons (pv 1) (pa_cons (pe_glob (v := .ref T.c_BadCalendar) (by rfl) T.g_BadCalendar rfl) pa_nil))))
       (pss_one (ps_expr (pe_bm PySem.F.plainAttrs_list PySem.F.slot_list_append PySem.F.type_list_append mt_append (pv 4) (pa_cons (pe_tup (pa_cons pe_str (pa_cons (pe_xk (pv 1)) pa_nil))) pa_nil))))
       pss_nil)
       (pss_one (ps_ret (pe_ifExp (PW.pt (pw_and (pt_cmpR op_eq (pe_callB c_len (by rfl) T.b_len PySem.boot_len (pa_cons (pv 4) pa_nil)) pe_int (nomark _)) (pw_and1 (pt_val (pe_callB call_isK (by rfl) T.b_isinstance (by decide +kernel) (pa_cons (pv 1) (pa_cons (pe_bltn (v := .ty "ValueError") (u := .type "ValueError") (by rfl) T.b_ValueError (by decide +kernel) rfl) pa_nil))))))) (pe_ix (show IxR _ (rIxL X.K) from ix_list) (pv 4) pe_int (fun _ _ => rfl)) (pe_tup (pa_cons pe_str pa_nil)))))))))), ?_⟩
  refine ⟨by rw [sizeLine_eq]; exact (show 2 ≤ 16777216 by decide), fun q0 hq0 => ⟨q0, [.non, .non], rfl, sqt upd_same, rfl, .non, [.non], rfl, .non, [], rfl, rfl, rfl, ?_⟩⟩
  have g1 : Good c kn n (upd H q0 (.tup [.non, .non])) := g.ext (fun x o e => by rw [upd_ne (ne_of_none e hq0)]; exact e)
  have hc1 : (upd H q0 (.tup [.non, .non])) c' = some (CodeO c' q) := by rw [upd_ne (ne_of_none hc hq0)]; exact hc
  refine ⟨hc1, ?_⟩
  refine hb _ ?err _ g1 _ ?post
  case post =>
    intro v kn1 n1 H2 hq g2
    refine gname_run ?_
    dsimp only
    refine body_of (c := c) g2 ?_
    walk_at "wi"
    refine ⟨show 1 ≤ 1000 by decide, fun p hp => ?_⟩
    exact fun H' g' => hQ _ _ _ _ (hq p hp) g'
  case err =>
    rintro cls d kn1 n1 H2 ⟨rfl, dd, fs, y, rfl, hd, hl, he⟩ g2
    intro σ' hσ
    refine ⟨T.exm_BadCalendar, fun a ha => ?_⟩
    have hσ' : ∃ x0 x1 x2 x3 x4, σ' = [x0, x1, x2, x3, x4] := by
      match σ', hσ with
      | [x0, x1, x2, x3, x4], _ => exact ⟨x0, x1, x2, x3, x4, rfl⟩
    obtain ⟨x0, x1, x2, x3, x4, rfl⟩ := hσ'
    refine ⟨_, rfl, ?_⟩
    refine gname_run ?_
    dsimp only
    refine body_of (c := c) (g2.new (o := exh a (.ref T.c_BadCalendar) (some dd)) ha) ?_
    have had : dd ≠ a := fun z => by have := g2.ex _ _ hd; rw [z, ha] at this; cases this
    have hd2 : (upd kn1 a (exh a (.ref T.c_BadCalendar) (some dd))) dd = some (.xd fs) := by rw [upd_ne had]; exact hd
    have ha2 : (upd kn1 a (exh a (.ref T.c_BadCalendar) (some dd))) a = some (exh a (.ref T.c_BadCalendar) (some dd)) := upd_same
    have ex1 := ext_new (o := exh a (.ref T.c_BadCalendar) (some dd)) (g2.free ha)
    generalize upd kn1 a (exh a (.ref T.c_BadCalendar) (some dd)) = k2 at hd2 ha2 ex1 ⊢
    walk_at "wi"
    refine ⟨show 0 ≤ 1000 by decide, fun l hl0 => ?_⟩
    have ex3 := ext_tr ex1 (ext_new (o := .lst []) hl0)
    have fl := free_ext ex1 hl0
    replace hd2 := ext_new (o := .lst []) hl0 _ _ hd2
    replace ha2 := ext_new (o := .lst []) hl0 _ _ ha2
    have f3 : (upd k2 l (.lst [])) l = some (.lst []) := upd_same
    generalize upd k2 l (.lst []) = k3 at hd2 ha2 ex3 f3 ⊢
    walk_at "wi"
    refine r_isK (.own _) ha2 hd2 T.xc_BadCalendar T.kit_BC ?_
    walk_at "wi"
    refine w_append rfl f3 ?_
    walk_at "wi"
    refine w_xk ?_
    walk_at "wi"
    refine ⟨_, _, _, _, y, rfl, ha2, hd2, T.xf_BadCalendar, T.nx_BadCalendar_part, hl, ?_⟩
    walk_at "wi"
    refine ⟨show 2 ≤ 1000 by decide, fun p hp => w_gen hp fun k4 e4 f4 => ?_⟩
    walk_at "wi"
    refine ⟨_, [], rfl, e4 _ _ f3, show 0 ≤ 1000 by decide, ?_⟩
    have h5 := e4 _ _ f3
    replace hd2 := put_xd (o := .lst ([] ++ [.ref p])) h5 (e4 _ _ hd2)
    replace ha2 := put_exh (o := .lst ([] ++ [.ref p])) h5 (e4 _ _ ha2)
    have f5 : (upd k4 l (.lst ([] ++ [.ref p]))) l = some (.lst [.ref p]) := upd_same
    have f6 := put_tup (o := .lst ([] ++ [.ref p])) h5 f4
    have ex5 := kput (o := .lst ([] ++ [.ref p])) fl (ext_tr ex3 e4)
    generalize upd k4 l (.lst ([] ++ [.ref p])) = k5 at hd2 ha2 f5 f6 ex5 ⊢
    walk_at "wi"
    refine ⟨fun _ => ?_, fun z => absurd z (by simp)⟩
    walk_at "wi"
    refine r_isK (.ty _) ha2 hd2 T.xc_BadCalendar T.kit_BC_V ?_
    walk_at "wi"
    exact fun H' g' => hQ _ _ _ _ (he p _ ex5 (free_ext ex3 hp) f6) g'
end

end NN

namespace NN
open PySem PySem.Spec PyProof.Rows L2 LamX AW ClX
/-! ### face -/
theorem kbn {K : PySem.W.Frag} {x qual : Str} {st : Stmt} {f : Addr} {fd : FuncData} {ps : List Str} (F : Fun K x qual st f fd) (n : Nat) (ks : List Str) (g : {α : Type} → List α → List α → List α)
    (hrel : ∀ {vs zs : List V} {us ws : List Value}, Vals vs us → Vals zs ws → Vals (g vs zs) (g us ws))
    (h : ∀ (kV doc pm : Value) (an : Option Addr) (cdv ct : Value) (us ws : List Value), us.length = n → ws.length = ks.length → bindArgs (PySem.W.fnOf x qual (defArgs st) (defBody st) (defScope st) .none kV doc pm an cdv ct) ⟨us, ks.zip ws⟩ = pure (ps.zip (g us ws))) : KBn K fd ps n ks g g := by
  obtain ⟨oc, od, kV, doc, pm, an, cdv, ct, osl, rfl, lk, hcd⟩ := F.ex
  exact ⟨fun s us ws X l1 l2 => BindsTo.of_eq (h kV doc pm an cdv ct us ws l1 l2), hrel⟩
abbrev gRot {α : Type} (us ws : List α) : List α := us ++ (ws.drop 1 ++ ws.take 1)
theorem rel_rot {vs zs : List V} {us ws : List Value} (h : Vals vs us) (k : Vals zs ws) : Vals (gRot vs zs) (gRot us ws) := by
  refine h.append ?_
  cases k with
  | nil => exact .nil
  | cons a b => exact Vals.append b (Paired.cons a .nil)
abbrev gId {α : Type} (us ws : List α) : List α := us ++ ws
theorem rel_id {vs zs : List V} {us ws : List Value} (h : Vals vs us) (k : Vals zs ws) : Vals (gId vs zs) (gId us ws) := h.append k
section
variable {K : PySem.W.Frag} {mg : Str → Option Value}
theorem kb_cal (T : Tx K mg) : KBn K T.d_Calendar___init__ ["self", "rooms", "first", "after"] 1 ["after", "rooms", "first"] gRot gRot :=
  kbn T.F_Calendar___init__ 1 ["after", "rooms", "first"] gRot rel_rot fun _ _ _ _ _ _ us ws l1 l2 => match us, ws, l1, l2 with | [_], [_, _, _], _, _ => rfl
theorem kb_with (T : Tx K mg) : KBn K T.d_Calendar_with_rooms ["self", "rooms"] 1 ["rooms"] gId gId :=
  kbn T.F_Calendar_with_rooms 1 ["rooms"] gId rel_id fun _ _ _ _ _ _ us ws l1 l2 => match us, ws, l1, l2 with | [_], [_], _, _ => rfl
end
section
variable {K : PySem.W.Frag} {c : Cw} {kn : Hp} {n : Nat} {Q : V → Hp → Nat → Prop}
theorem day12 {i : Int} (h : isDay i) : i.natAbs < 10 ^ 12 := by
  have h1 : -999999999999 ≤ i := h.1
  have h2 : i ≤ 999999999999 := h.2
  omega
theorem r_repr5 {a q : Addr} {r f e : Int} (h1 : r.natAbs < 10 ^ 12) (h2 : f.natAbs < 10 ^ 12) (h3 : e.natAbs < 10 ^ 12) (h : kn a = some (.lst [.int r, .int f, .int e, .ref q, .int 0])) (hq : kn q = some (.tup []))
    (k : Q (.str (PyData.shown (.list [.int r, .int f, .int e, .tuple [], .int 0]))) kn n) : W c (rRepr K [.ref a]) kn n Q := by
  have sh := show_ints [r, f, e, 0] (by intro n hn; simp only [List.mem_cons, List.mem_nil_iff, or_false] at hn; rcases hn with rfl | rfl | rfl | rfl <;> first | assumption | decide)
  have st := PyData.intsShortAll_ints [r, f, e, 0] (by intro n hn; simp only [List.mem_cons, List.mem_nil_iff, or_false] at hn; rcases hn with rfl | rfl | rfl | rfl <;> first | assumption | decide)
  have w1 := weigh_int h1
  have w2 := weigh_int h2
  have w3 := weigh_int h3
  have w4 := weigh_int (i := 0) (by decide)
  simp only [List.map_cons, List.map_nil, PyData.showableAll, Bool.and_eq_true, and_true] at sh
  simp only [List.map_cons, List.map_nil, PyData.intsShortAll, Bool.and_eq_true, and_true] at st
  refine r_repr (.lst (sql h) (.cons (.int _) (.cons (.int _) (.cons (.int _) (.cons (.tup (sqt hq) .nil) (.cons (.int _) .nil)))))) ?_ ?_ ?_ ?_ k
  · simp only [PyData.showable, PyData.showableAll, Bool.and_eq_true, and_true] at sh ⊢
    exact ⟨sh.1, sh.2.1, sh.2.2.1, trivial, sh.2.2.2⟩
  · simp [PyData.hasDict, PyData.hasDictAll]
  · simp [PyData.depth, PyData.depthAll]
  · refine PyData.shown_fits_of_layable0 (B := 13) (by decide) (by decide) ?_ ?_
    · have h2 : PyData.weight (.list [.int r, .int f, .int e, .tuple [], .int 0]) ≤ 2 ^ 20 := by
        simp only [PyData.weight, PyData.weightAll] at w1 w2 w3 w4 ⊢; omega
      unfold PyData.layable0
      rw [decide_eq_true h2]
      simp [PyData.canLay0, PyData.canLayAll0, PyData.depth, PyData.depthAll]
    · simp only [PyData.intsShort, PyData.intsShortAll, Bool.and_eq_true, and_true] at st ⊢
      exact ⟨st.1, st.2.1, st.2.2.1, trivial, st.2.2.2⟩
theorem r_reprTup {a : Addr} (ns : List Int) (h : kn a = some (.tup (ns.map V.int))) (hb : ∀ n ∈ ns, n.natAbs < 10 ^ 12) (hl : ns.length ≤ 1000) (q : Q (.str (PyData.shown (.tuple (ns.map PyData.int)))) kn n) : W c (rRepr K [.ref a]) kn n Q := by
  refine r_repr (.tup (sqt h) (dp_ints ns)) ?_ ?_ ?_ ?_ q
  · simp only [PyData.showable]; exact show_ints ns hb
  · simp only [PyData.hasDict]; exact nodict_ints ns
  · simp only [PyData.depth]; rw [deep_ints ns]; decide
  · refine PyData.shown_fits_of_layable0 (B := 13) (by decide) (by decide) ?_ (by simp only [PyData.intsShort]; exact PyData.intsShortAll_ints ns hb)
    have h1 := weigh_ints ns hb
    have h2 : PyData.weight (.tuple (ns.map PyData.int)) ≤ 2 ^ 20 := by simp only [PyData.weight]; omega
    unfold PyData.layable0
    rw [show PyData.canLay0 (.tuple (ns.map PyData.int)) = true by simp only [PyData.canLay0]; exact lay_ints ns, show PyData.depth (.tuple (ns.map PyData.int)) = 1 by simp only [PyData.depth]; rw [deep_ints ns], decide_eq_true h2]
    rfl
end
def sup (r : Int) (m : Nat) : List Int := [r] ++ List.replicate (m - 1) 0 ++ [0 - r]
theorem sup_len {r : Int} {m : Nat} (h : 1 ≤ m) : (sup r m).length = m + 1 := by
  unfold sup
  simp only [List.length_append, List.length_replicate, List.length_cons, List.length_nil]
  omega
theorem sup_at {r : Int} {m i : Nat} (h : 1 ≤ m) (hi : i ≤ m) : (sup r m)[i]? = some (if i = 0 then r else if i = m then -r else 0) := by
  unfold sup
  rw [List.append_assoc]
  cases i with
  | zero => simp
  | succ i =>
    show (List.replicate (m - 1) 0 ++ [0 - r])[i]? = _
    by_cases e : i + 1 = m
    · rw [List.getElem?_append_right (by rw [List.length_replicate]; omega), List.length_replicate, show i - (m - 1) = 0 by omega]
      simp [e, h]
      omega
    · rw [List.getElem?_append_left (by rw [List.length_replicate]; omega), List.getElem?_replicate, if_pos (by omega)]
      simp [e]
theorem sup_of {r : Int} {m : Nat} {ys : List V} (h : 1 ≤ m) (hl : ys.length = m + 1) (hy : ∀ (i : Nat) (y : V), ys[i]? = some y → y = .int (if i = 0 then r else if i = m then -r else 0)) : ys = (sup r m).map V.int := by
  apply List.ext_getElem?
  intro i
  by_cases hi : i < ys.length
  · have e := hy i _ (List.getElem?_eq_getElem hi)
    rw [List.getElem?_eq_getElem hi, e, List.getElem?_map, sup_at h (by omega)]
    rfl
  · rw [List.getElem?_eq_none (by omega), List.getElem?_eq_none (by rw [List.length_map, sup_len h]; omega)]
theorem flat_one {α : Type} (x : α) : ∀ m : Nat, (List.replicate m [x]).flatten = List.replicate m x
  | 0 => rfl
  | m + 1 => by rw [List.replicate_succ, List.replicate_succ, List.flatten_cons, flat_one x m]; rfl
theorem r_lenC {c : Cw} {kn : Hp} {n : Nat} {Q : V → Hp → Nat → Prop} {C s : Addr} {r f e : Int} (st : CalAt C kn s r f e) (q : Q (.int 0) kn n) : W c (rLenO C (liftX (bLenC C)) [.ref s]) kn n Q := by
  obtain ⟨dx, d, a1, a2⟩ := st.at_
  exact r_lenO mo_lenC a1 ⟨s, r, f, e, rfl, st, 0, rfl, ⟨by decide, by decide⟩, q⟩
theorem r_hasC {c : Cw} {kn : Hp} {n : Nat} {Q : V → Hp → Nat → Prop} {C s : Addr} {r f e : Int} {z : Str} (st : CalAt C kn s r f e) (q : Q (.bl false) kn n) : W c (rInO C (liftX (bHasC C)) false (.str z) (.ref s)) kn n Q := by
  obtain ⟨dx, d, a1, a2⟩ := st.at_
  exact r_inO mo_hasC a1 ⟨s, r, f, e, z, rfl, st, false, rfl, q⟩
theorem cal_new {K : PySem.W.Frag} {C B : Addr} {kn1 : Hp} {r f e : Int} {Q : AK} {E : AXK} {x dx : Addr} (b1 : isRm r) (b2 : isDay f) (b3 : isDay e) (b4 : f < e) (b5 : e ≤ f + 40) (h : NewC C kn1 r f e Q) (hx : kn1 x = none) (hdx : kn1 dx = none) (hne : dx ≠ x) :
    bCal K C B [.ref x, .int r, .int f, .int e] (upd (upd kn1 dx (.own x)) x (.ins C dx [])) (fun v k => v = .non ∧ Q (.ref x) k) E := by
  refine ⟨x, dx, _, _, _, rfl, upd_same, .inl ⟨r, f, e, rfl, rfl, rfl, b1, b2, b3, b4, b5, fun q hq => ⟨rfl, h x _ ?_ hx ⟨⟨dx, q, upd_same, ?_⟩, b1, b2, b3, b4, b5⟩⟩⟩⟩
  · intro y o hy
    have y1 : y ≠ x := fun z => by rw [z, hx] at hy; cases hy
    have y2 : y ≠ dx := fun z => by rw [z, hdx] at hy; cases hy
    have y3 : y ≠ q := fun z => by rw [← z, upd_ne y1, upd_ne y2, hy] at hq; cases hq
    rw [upd_ne y1, upd_ne y3, upd_ne y1, upd_ne y2]
    exact hy
  · have y1 : q ≠ x := fun z => by rw [z, upd_same] at hq; cases hq
    rw [upd_ne y1, upd_same]
theorem w_calR {K : PySem.W.Frag} {c : Cw} {kn : Hp} {n : Nat} {σ : L2.St} {Q : V → Hp → Nat → Prop} {E : XK} {C B : Addr} {tk : TA}
    (h : W c (tk σ) kn n fun zs kn1 n1 => ∃ r f e, zs = [.int e, .int r, .int f] ∧ isRm r ∧ isDay f ∧ isDay e ∧ f < e ∧ e ≤ f + 40 ∧ NewC C kn1 r f e (fun v k => Q v k n1)) : W c (tMakeK C 0 3 (liftX (bCal K C B)) gRot E tNil tk σ) kn n Q := by
  refine w_makeK (EA := fun _ _ _ _ => False) mo_cal err_no (w_nil (h.mono fun zs kn1 n1 hv => ?_))
  obtain ⟨r, f, e, rfl, b1, b2, b3, b4, b5, h⟩ := hv
  exact ⟨rfl, rfl, fun x dx hx hdx hne => cal_new b1 b2 b3 b4 b5 h hx hdx hne⟩
theorem nf_self {K : PySem.W.Frag} {C : Addr} : PySem.W.notFirst K C (.ref C) = true := by
  unfold PySem.W.notFirst
  simp
theorem r_eqCC {K : PySem.W.Frag} {mg : Str → Option Value} (T : Tx K mg) {c : Cw} {kn : Hp} {n : Nat} {Q : V → Hp → Nat → Prop} {s s' : Addr} {r f e r' f' e' : Int} {neg : Bool} (l : CalAt T.c_Calendar kn s r f e) (l' : CalAt T.c_Calendar kn s' r' f' e')
    (q : ∀ k', Ext kn k' → Q (.bl (if neg then !decide (r = r' ∧ f = f' ∧ e = e') else decide (r = r' ∧ f = f' ∧ e = e'))) k' n) : W c (rEqO K T.c_Calendar (liftX (bEqC K T.c_Calendar)) neg (.ref s) (.ref s')) kn n Q := by
  obtain ⟨dx, d, a1, a2⟩ := l.at_
  obtain ⟨dx', d', b1, b2⟩ := l'.at_
  exact r_eqO mo_eqC a1 (T.own_Calendar.ty b1) nf_self ⟨s, r, f, e, _, rfl, l, .inl ⟨s', r', f', e', rfl, l', fun k' x => ⟨_, rfl, q k' x⟩⟩⟩
theorem r_neC {K : PySem.W.Frag} {mg : Str → Option Value} (T : Tx K mg) {c : Cw} {kn : Hp} {n : Nat} {Q : V → Hp → Nat → Prop} {s s' : Addr} {r f e : Int} (l : CalAt T.c_Calendar kn s r f e) (l' : CalAt T.c_Calendar kn s' r f e)
    (q : ∀ k', Ext kn k' → Q (.bl false) k' n) : W c (rEqO K T.c_Calendar (liftX (bEqC K T.c_Calendar)) true (.ref s) (.ref s')) kn n Q :=
  r_eqCC T l l' fun k' e => by rw [if_pos rfl, decide_eq_true ⟨rfl, rfl, rfl⟩]; exact q k' e
theorem r_eqC {K : PySem.W.Frag} {mg : Str → Option Value} (T : Tx K mg) {c : Cw} {kn : Hp} {n : Nat} {Q : V → Hp → Nat → Prop} {s s' : Addr} {r f e : Int} (l : CalAt T.c_Calendar kn s r f e) (l' : CalAt T.c_Calendar kn s' r f e)
    (q : ∀ k', Ext kn k' → Q (.bl true) k' n) : W c (rEqO K T.c_Calendar (liftX (bEqC K T.c_Calendar)) false (.ref s) (.ref s')) kn n Q :=
  r_eqCC T l l' fun k' e => by rw [if_neg Bool.false_ne_true, decide_eq_true ⟨rfl, rfl, rfl⟩]; exact q k' e
def bFace (C : Addr) : List V → Hp → AK → AXK → Prop := fun vs kn Q _ => ∃ s r f e, vs = [.ref s, .int r, .int f, .int e] ∧ CalAt C kn s r f e ∧ ∀ k', Ext kn k' → Q (.bl true) k'
theorem mo_face {C : Addr} : MonoX (bFace C) := by
  rintro vs kn Q R E F h1 h2 ⟨s, r, f, e, a, b, h⟩
  exact ⟨s, r, f, e, a, b, fun k x => h1 _ _ (h k x)⟩
section
variable {P : Program} {w : World} {K : PySem.W.Frag} {mg : Str → Option Value} {base : Heap}
theorem ok__law_face_right (T : Tx K mg) : L2.FnG P w K mg base CX0 10 T.f__law_face_right T.d__law_face_right ["made", "number", "start", "goal"] (liftX (bFace T.c_Calendar)) := by
  refine T.F__law_face_right.okG sc__law_face_right (fun vs H Q E h => ?_) (fun cdv A outer s H vs Q E hr hg h => ?_)
  · obtain ⟨kn, _, _, a, r, f, e, rfl, _⟩ := h
    rfl
  · obtain ⟨kn, ex, nt, a, r, f, e, rfl, st, h⟩ := h
    have d1 : -999999999999 ≤ f ∧ f ≤ 999999999999 := st.d1
    have d2 : -999999999999 ≤ e ∧ e ≤ 999999999999 := st.d2
    have l1 := st.lt
    have l2 := st.most
    have r1 : 1 ≤ r ∧ r ≤ 12 := st.rm
    refine ⟨_, (pss_cons (ps_set (i := 4) sc__law_face_right.nd rfl (by first | exact Or.inl rfl | exact Or.inr rfl) (pe_op op_sub (pv 3) (pv 2)))
       (pss_cons (ps_if (pt_cmpR op_ne (pe_callB (c_repr hg (room_u128 hr)) (by rfl) T.b_repr (by decide +kernel) (pa_cons (pe_lst (pa_cons (pe_fld (pv 0) rfl) (pa_cons (pe_fld (pv 0) rfl) (pa_cons (pe_fld (pv 0) rfl) (pa_cons (pe_prop (pv 0) T.cl_Calendar T.pp_Calendar_names (ok_Calendar_names T) (hr.mono (by decide)) T.bd_Calendar_names .nil pass0 (by rfl)) (pa_cons (pe_callB (c_lenO T.sm_Calendar___len__ (ok_Calendar___len__ T) (hr.mono (by decide)) T.bd_Calendar___len__ pass0) (by rfl) T.b_len (by decide +kernel) (pa_cons (pv 0) pa_nil)) pa_nil)))))) pa_nil)) (pe_callB (c_repr hg (room_u128 hr)) (by rfl) T.b_repr (by decide +kernel) (pa_cons (pe_lst (pa_cons (pv 1) (pa_cons (pv 2) (pa_cons (pv 3) (pa_cons (pe_tup pa_nil) (pa_cons pe_int pa_nil)))))) pa_nil)) (nomark _))
       (pss_one (ps_ret pe_bl))
       pss_nil)
       (pss_cons (ps_if (PW.pt (pw_or (pt_cmpR op_ne (pe_callB (c_repr hg (room_u128 hr)) (by rfl) T.b_repr (by decide +kernel) (pa_cons (pe_prop (pv 0) T.cl_Calendar T.pp_Calendar_free_rooms (ok_Calendar_free_rooms T) (hr.mono (by decide)) T.bd_Calendar_free_rooms .nil pass0 (by rfl)) pa_nil)) (pe_callB (c_repr hg (room_u128 hr)) (by rfl) T.b_repr (by decide +kernel) (pa_cons (pe_op (show OpR _ _ (rRepU K) from op_repU) (pe_tup (pa_cons (pv 1) pa_nil)) (pv 4)) pa_nil)) (nomark _)) (pw_or1 (pt_cmpR (op_neD hr.units) (pe_lock (pe_lc (own := [("name", 5)]) (g := gName 5) (by rfl) sc__law_face_right.nd (pi_ownK T.sm_Calendar___iter__ (oN_Calendar___iter__ T) T.bd_Calendar___iter__ (hr.mono (by decide)) (pv 0)) (blkOk_by (own := [("name", 5)]) (N := ["made", "number", "start", "goal", "many", "name", "told", "k", "row"]) (sc := defScope s__law_face_right) (by decide +kernel)) (fun _ _ _ _ _ => pg_name (i := 5) sc__law_face_right.nd rfl (Or.inl rfl)) (fun _ _ _ _ _ => pts_nil) (fun _ _ _ _ _ => pe_never))) (pe_lst pa_nil) (nomark _)))))
       (pss_one (ps_ret pe_bl))
       pss_nil)
       (pss_cons (ps_setLc (i := 6) (own := [("k", 7)]) (g := gName 7) (by rfl) sc__law_face_right.nd rfl rfl (sw_true rfl rfl rfl (by decide +kernel)) (pi_range1 (by rfl) T.b_range (pa_cons (pe_op op_add (pv 4) pe_int) pa_nil)) (blkOk_by (own := [("k", 7)]) (N := ["made", "number", "start", "goal", "many", "name", "told", "k", "row"]) (sc := defScope s__law_face_right) (by decide +kernel)) (fun _ _ _ _ _ => pg_name (i := 7) sc__law_face_right.nd rfl (Or.inl rfl)) (fun _ _ _ _ _ => pts_nil) (fun _ _ _ _ _ => (pe_meth (pv 0) T.cl_Calendar T.me_Calendar_supply (ok_Calendar_supply T) (hr.mono (by decide)) T.bd_Calendar_supply .nil pass0 (pa_cons (pe_op op_add (pv 2) (pv 7)) pa_nil))))
       (pss_cons (ps_if (pt_cmpR op_ne (pe_callB (c_repr hg (room_u128 hr)) (by rfl) T.b_repr (by decide +kernel) (pa_cons (pv 6) pa_nil)) (pe_callB (c_repr hg (room_u128 hr)) (by rfl) T.b_repr (by decide +kernel) (pa_cons (pe_op op_cat (pe_op op_cat (pe_lst (pa_cons (pv 1) pa_nil)) (pe_op op_repQ (pe_lst (pa_cons pe_int pa_nil)) (pe_op op_sub (pv 4) pe_int))) (pe_lst (pa_cons (pe_op op_sub pe_int (pv 1)) pa_nil))) pa_nil)) (nomark _))
       (pss_one (ps_ret pe_bl))
       pss_nil)
       (pss_cons (ps_if (PW.pt (pw_or (pt_cmpR (op_ne_dictA (Nat.lt_of_le_of_lt (Nat.le_add_right _ 64) hr.units)) (pe_meth0 (pv 0) T.cl_Calendar T.me_Calendar_room_plan (ok_Calendar_room_plan T) (hr.mono (by decide)) T.bd_Calendar_room_plan .nil pass0) pe_dnewK (nomark _)) (pw_or (pt_cmpR (op_neD hr.units) (pe_lcE (own := [("row", 8)]) sc__law_face_right.nd (pge_meth0 (pv 0) T.cl_Calendar T.me_Calendar_guests (oE_Calendar_guests T) (hr.mono (by decide)) T.bd_Calendar_guests) (hr.mono (by decide)) (blkOk_by (own := [("row", 8)]) (N := ["made", "number", "start", "goal", "many", "name", "told", "k", "row"]) (sc := defScope s__law_face_right) (by decide +kernel)) (fun _ => rfl)) (pe_lst pa_nil) (nomark _)) (pw_or1 (pt_cmpR (op_inO T.sm_Calendar___contains__ (ok_Calendar___contains__ T) (hr.mono (by decide)) T.bd_Calendar___contains__ pass0) pe_str (pv 0) (by rfl))))))
       (pss_one (ps_ret pe_bl))
       pss_nil)
       (pss_cons (ps_if (PW.pt (pw_or (pt_cmpR (op_neO T.eq_Calendar (ok_Calendar___eq__ T) (hr.mono (by decide)) T.bd_Calendar___eq__ pass0) (pv 0) (pe_makeK0 T.mk_Calendar (ok_Calendar___init__ T) (hr.mono (by decide)) (by rfl) T.g_Calendar (kb_cal T) passL (pk_cons (pv 3) (pk_cons (pv 1) (pk_cons (pv 2) pk_nil)))) (nomark _)) (pw_or1 (pt_cmpR (op_neO T.eq_Calendar (ok_Calendar___eq__ T) (hr.mono (by decide)) T.bd_Calendar___eq__ pass0) (pe_methKW (pv 0) T.cl_Calendar T.me_Calendar_with_rooms (ok_Calendar_with_rooms T) (hr.mono (by decide)) (kb_with T) pass0 (pk_cons (pv 1) pk_nil)) (pv 0) (nomark _)))))
       (pss_one (ps_ret pe_bl))
       pss_nil)
       (pss_one (ps_ret (pe_and (pe_cmpR (op_eqO T.eq_Calendar (ok_Calendar___eq__ T) (hr.mono (by decide)) T.bd_Calendar___eq__ pass0) (pv 0) (pe_make T.mk_Calendar (ok_Calendar___init__ T) (hr.mono (by decide)) (by rfl) T.g_Calendar T.bd_Calendar___init__ .nil passL (pa_cons (pv 1) (pa_cons (pv 2) (pa_cons (pv 3) pa_nil)))) (nomark _)) (pe_one (pe_cmpR (op_eqO T.eq_Calendar (ok_Calendar___eq__ T) (hr.mono (by decide)) T.bd_Calendar___eq__ pass0) (pe_meth0 (pv 0) T.cl_Calendar T.me_Calendar_twin (ok_Calendar_twin T) (hr.mono (by decide)) T.bd_Calendar_twin .nil pass0) (pv 0) (nomark _))))))))))))), ?_⟩
    refine body_of (pure_start ex nt) ?_
    walk_at "wi"
    refine w_rooms T.cl_Calendar T.na_Calendar_rooms rfl st ?_
    walk_at "wi"
    refine w_first T.cl_Calendar T.na_Calendar_first rfl st ?_
    walk_at "wi"
    refine w_after T.cl_Calendar T.na_Calendar_after rfl st ?_
    walk_at "wi"
    obtain ⟨dx, d0, a1, a2⟩ := st.at_
    refine w_prop mo_names (w_var rfl ⟨a, dx, _, rfl, a1, a, r, f, e, rfl, st, fun p hp => w_gen hp fun k1 e1 f1 => ?_⟩)
    walk_at "wi"
    refine r_lenC (st.ext e1) ?_
    walk_at "wi"
    refine ⟨show 5 ≤ 1000 by decide, fun q hq => w_gen hq fun k2 e2 f2 => ?_⟩
    have nr : r.natAbs < 10 ^ 12 := by omega
    walk_at "wi"
    refine r_repr5 nr (day12 st.d1) (day12 st.d2) f2 (e2 _ _ f1) ?_
    walk_at "wi"
    refine ⟨show 0 ≤ 1000 by decide, fun p2 hp2 => w_gen hp2 fun k3 e3 f3 => ?_⟩
    walk_at "wi"
    refine ⟨show 5 ≤ 1000 by decide, fun q2 hq2 => w_gen hq2 fun k4 e4 f4 => ?_⟩
    walk_at "wi"
    refine r_repr5 nr (day12 st.d1) (day12 st.d2) f4 (e4 _ _ f3) ?_
    have E4 := ext_tr e1 (ext_tr e2 (ext_tr e3 e4))
    clear e1 e2 e3 e4 f1 f2 f3 f4 hp hq hp2 hq2 a1 a2
    walk_at "wi"
    refine w_free rfl (st.ext E4) fun p5 k5 e5 _ f5 => ?_
    obtain ⟨m, hm⟩ : ∃ m : Nat, e - f = (m : Int) := ⟨(e - f).toNat, by omega⟩
    have hm2 : (e - f).toNat = m := by omega
    have m1 : 1 ≤ m := by omega
    have m40 : m ≤ 40 := by omega
    rw [hm2] at f5
    have in5 : ∀ x ∈ List.replicate m r, x.natAbs < 10 ^ 12 := fun x hx => by rw [List.eq_of_mem_replicate hx]; exact nr
    have le5 : (List.replicate m r).length ≤ 1000 := by rw [List.length_replicate]; omega
    walk_at "wi"
    refine r_reprTup (List.replicate m r) (by rw [List.map_replicate]; exact f5) in5 le5 ?_
    walk_at "wi"
    refine ⟨show 1 ≤ 1000 by decide, fun p6 hp6 => w_gen hp6 fun k6 e6 f6 => ?_⟩
    walk_at "wi"
    rw [hm]
    refine r_repU f6 (by simp) (by omega) (by omega) (show 1 ≤ 1000 by decide) fun p7 k7 e7 f7 => ?_
    rw [Int.toNat_natCast, flat_one] at f7
    walk_at "wi"
    refine r_reprTup (List.replicate m r) (by rw [List.map_replicate]; exact f7) in5 le5 ?_
    have E7 := ext_tr E4 (ext_tr e5 (ext_tr e6 e7))
    clear e5 e6 e7 f5 f6 f7 E4 hp6
    walk_at "wi"
    obtain ⟨dx7, d7, A7, D7⟩ := (st.ext E7).at_
    refine w_lcOwnE rfl A7 rfl D7 fun p8 hp8 => w_gen hp8 fun k8 e8 f8 => ?_
    walk_at "wi"
    refine ⟨show 0 ≤ 1000 by decide, fun p9 hp9 => w_gen hp9 fun k9 e9 f9 => ?_⟩
    refine r_ne_d (d := .list []) (e := .list []) (.lst (sql (e9 _ _ f8)) .nil) (.lst (sql f9) .nil) (by decide +kernel) (by decide +kernel) ?_
    rw [show (!PyData.eqv (.list []) (.list [])) = false by decide +kernel]
    have E9 := ext_tr E7 (ext_tr e8 e9)
    clear e8 e9 f8 f9 hp8 hp9 A7 D7 E7
    walk_at "wi"
    refine w_lcN (fun i v _ => v = .int (if i = 0 then r else if i = m then -r else 0)) (fun _ _ _ _ _ h => h) (fun _ _ _ _ _ _ _ h => h) (i_rng1 ?_)
    walk_at "wi"
    have hm1 : ((m : Int) + 1).toNat = m + 1 := by omega
    rw [hm1]
    refine ⟨by omega, by omega, _, (fun _ => True), gives_rng, by rw [List.length_map, List.length_range]; omega, fun _ _ => trivial, ?_, ?_⟩
    · intro i x hx k ek
      have hi : i < m + 1 := by
        have := (List.getElem?_eq_some_iff.1 hx).1
        rw [List.length_map, List.length_range] at this
        exact this
      obtain rfl : x = V.int (i : Nat) := by
        rw [List.getElem?_map, List.getElem?_range hi] at hx
        rw [← Option.some.inj hx]
        exact congrArg V.int (show (0 : Int) + ((i : Nat) : Int) = ((i : Nat) : Int) by omega)
      refine g_name ⟨rfl, rfl, rfl, ?_⟩
      have stk := st.ext (ext_tr E9 ek)
      obtain ⟨dx9, d9, A9, D9⟩ := stk.at_
      refine w_meth mo_supply err_no (w_var rfl ⟨a, dx9, _, rfl, A9, rfl, ?_⟩)
      walk_at "wi"
      refine ⟨a, r, f, e, f + (i : Int), rfl, stk, by omega, by omega, fun k' ek' => ⟨rfl, ek', ?_⟩⟩
      by_cases h1 : i = 0
      · rw [if_pos (by omega), if_pos h1]
      · rw [if_neg (by omega), if_neg h1]
        by_cases h2 : i = m
        · rw [if_pos (by omega), if_pos h2]
        · rw [if_neg (by omega), if_neg h2]
    · intro D k10 ys e10 hD fD hl hy
      rw [List.length_map, List.length_range] at hl
      obtain rfl := sup_of m1 hl hy
      clear hl hy
      have E10 := ext_tr E9 e10
      have inS : ∀ x ∈ sup r m, x.natAbs < 10 ^ 12 := by
        intro x hx
        unfold sup at hx
        simp only [List.mem_append, List.mem_cons, List.mem_nil_iff, or_false] at hx
        rcases hx with (rfl | hx) | rfl
        · exact nr
        · rw [List.eq_of_mem_replicate hx]; decide
        · omega
      have leS : (sup r m).length ≤ 1000 := by rw [sup_len m1]; omega
      walk_at "wi"
      refine r_reprInts (sup r m) rfl fD inS leS ?_
      walk_at "wi"
      refine ⟨show 1 ≤ 1000 by decide, fun p11 hp11 => w_gen hp11 fun k11 e11 f11 => ?_⟩
      walk_at "wi"
      refine ⟨show 1 ≤ 1000 by decide, fun p12 hp12 => w_gen hp12 fun k12 e12 f12 => ?_⟩
      walk_at "wi"
      refine r_repQ f12 (by omega) (by omega) (show 1 * ((m : Int) - 1).toNat ≤ 100000 by omega) fun p13 hp13 => w_gen hp13 fun k13 e13 f13 => ?_
      rw [flat_one, show ((m : Int) - 1).toNat = m - 1 by omega] at f13
      refine r_cat (e13 _ _ (e12 _ _ f11)) f13 (by simp; omega) fun p14 hp14 => w_gen hp14 fun k14 e14 f14 => ?_
      walk_at "wi"
      refine ⟨show 1 ≤ 1000 by decide, fun p15 hp15 => w_gen hp15 fun k15 e15 f15 => ?_⟩
      refine r_cat (e15 _ _ f14) f15 (by simp; omega) fun p16 hp16 => w_gen hp16 fun k16 e16 f16 => ?_
      walk_at "wi"
      refine r_reprInts (sup r m) (by unfold sup; simp) f16 inS leS ?_
      have E16 := ext_tr E10 (ext_tr e11 (ext_tr e12 (ext_tr e13 (ext_tr e14 (ext_tr e15 e16)))))
      clear e11 e12 e13 e14 e15 e16 f11 f12 f13 f14 f15 f16 E9 E10 e10 fD
      walk_at "wi"
      have st16 := st.ext E16
      obtain ⟨dxA, dA, A16, D16⟩ := st16.at_
      refine w_meth mo_plan err_no (w_var rfl ⟨a, dxA, _, rfl, A16, rfl, w_nil ?_⟩)
      refine ⟨a, r, f, e, rfl, st16, fun p17 k17 e17 hp17 f17 => ?_⟩
      walk_at "wi"
      refine w_dnew fun p18 hp18 => w_gen hp18 fun k18 e18 f18 => ?_
      refine r_neD0 (e18 _ _ f17) f18 ?_
      have E18 := ext_tr E16 (ext_tr e17 e18)
      clear e17 e18 f17 f18 A16 D16 st16
      walk_at "wi"
      obtain ⟨dxB, dB, A18, D18⟩ := (st.ext E18).at_
      refine w_lcE rfl A18 rfl rfl D18 fun p19 hp19 => w_gen hp19 fun k19 e19 f19 => ?_
      walk_at "wi"
      refine ⟨show 0 ≤ 1000 by decide, fun p20 hp20 => w_gen hp20 fun k20 e20 f20 => ?_⟩
      refine r_ne_d (d := .list []) (e := .list []) (.lst (sql (e20 _ _ f19)) .nil) (.lst (sql f20) .nil) (by decide +kernel) (by decide +kernel) ?_
      rw [show (!PyData.eqv (.list []) (.list [])) = false by decide +kernel]
      have E20 := ext_tr E18 (ext_tr e19 e20)
      clear e19 e20 f19 f20 A18 D18
      walk_at "wi"
      refine r_hasC (st.ext E20) ?_
      walk_at "wi"
      refine w_calR ?_
      walk_at "wi"
      refine ⟨r, f, e, rfl, st.rm, st.d1, st.d2, st.lt, st.most, fun x21 k21 e21 n21 c21 => ?_⟩
      have E21 := ext_tr E20 e21
      refine r_neC T (st.ext E21) c21 fun k22 e22 => ?_
      have E22 := ext_tr E21 e22
      clear E20 e21 E21 n21 c21 e22
      walk_at "wi"
      obtain ⟨dxC, dC, A22, D22⟩ := (st.ext E22).at_
      refine w_methKW (EA := fun _ _ _ _ => False) mo_with err_no (w_var rfl ⟨a, dxC, _, rfl, A22, rfl, ?_⟩)
      walk_at "wi"
      refine ⟨rfl, a, r, f, e, r, rfl, st.ext E22, st.rm, fun x23 k23 e23 n23 c23 => ?_⟩
      walk_at "wi"
      have E23 := ext_tr E22 e23
      refine r_neC T c23 (st.ext E23) fun k24 e24 => ?_
      have E24 := ext_tr E23 e24
      clear E22 e23 E23 n23 c23 e24 A22 D22
      walk_at "wi"
      refine w_cal err_no ?_
      walk_at "wi"
      refine ⟨_, _, _, rfl, .inl ⟨r, f, e, rfl, rfl, rfl, st.rm, st.d1, st.d2, st.lt, st.most, fun x25 k25 e25 n25 c25 => ?_⟩⟩
      have E25 := ext_tr E24 e25
      refine r_eqC T (st.ext E25) c25 fun k26 e26 => ?_
      have E26 := ext_tr E25 e26
      clear E24 e25 E25 n25 c25 e26
      walk_at "wi"
      obtain ⟨dxD, dD, A26, D26⟩ := (st.ext E26).at_
      refine w_meth mo_twin err_no (w_var rfl ⟨a, dxD, _, rfl, A26, rfl, w_nil ?_⟩)
      refine ⟨a, r, f, e, rfl, st.ext E26, fun x27 k27 e27 n27 c27 => ?_⟩
      walk_at "wi"
      have E27 := ext_tr E26 e27
      refine r_eqC T c27 (st.ext E27) fun k28 e28 => ?_
      exact h _ (ext_tr E27 e28) 0
end

end NN

namespace NN
open PySem PySem.Spec PyProof.Rows L2 LamX AW ClX
/-! ### unlike -/
def Unl (C l : Addr) (kn : Hp) (r f e : Int) (v : V) : Prop :=
  v = .non ∨ (∃ i, v = .int i) ∨ (∃ b xs, v = .ref b ∧ kn b = some (.tup xs)) ∨ (∃ b xs, v = .ref b ∧ b ≠ l ∧ kn b = some (.lst xs)) ∨ (∃ b r' f' e', v = .ref b ∧ CalAt C kn b r' f' e' ∧ ¬(r = r' ∧ f = f' ∧ e = e'))
theorem CalAt.put {C l s : Addr} {kn : Hp} {xs : List V} {o : HO} {r f e : Int} (hl : kn l = some (.lst xs)) (h : CalAt C kn s r f e) : CalAt C (upd kn l o) s r f e := by
  obtain ⟨⟨dx, d, a, b⟩, c1, c2, c3, c4, c5⟩ := h
  exact ⟨⟨dx, d, by rw [upd_ne (fun z => by rw [z, hl] at a; cases a)]; exact a, by rw [upd_ne (fun z => by rw [z, hl] at b; cases b)]; exact b⟩, c1, c2, c3, c4, c5⟩
theorem Unl.ext {C l : Addr} {kn kn' : Hp} {r f e : Int} {v : V} (x : Ext kn kn') (h : Unl C l kn r f e v) : Unl C l kn' r f e v := by
  rcases h with h | h | ⟨b, xs, h1, h2⟩ | ⟨b, xs, h1, h2, h3⟩ | ⟨b, r', f', e', h1, h2, h3⟩
  · exact .inl h
  · exact .inr (.inl h)
  · exact .inr (.inr (.inl ⟨b, xs, h1, x _ _ h2⟩))
  · exact .inr (.inr (.inr (.inl ⟨b, xs, h1, h2, x _ _ h3⟩)))
  · exact .inr (.inr (.inr (.inr ⟨b, r', f', e', h1, h2.ext x, h3⟩)))
theorem Unl.put {C l : Addr} {kn : Hp} {xs : List V} {o : HO} {r f e : Int} {v : V} (hl : kn l = some (.lst xs)) (h : Unl C l kn r f e v) : Unl C l (upd kn l o) r f e v := by
  rcases h with h | h | ⟨b, ys, h1, h2⟩ | ⟨b, ys, h1, h2, h3⟩ | ⟨b, r', f', e', h1, h2, h3⟩
  · exact .inl h
  · exact .inr (.inl h)
  · exact .inr (.inr (.inl ⟨b, ys, h1, put_tup hl h2⟩))
  · exact .inr (.inr (.inr (.inl ⟨b, ys, h1, h2, by rw [upd_ne h2]; exact h3⟩)))
  · exact .inr (.inr (.inr (.inr ⟨b, r', f', e', h1, CalAt.put hl h2, h3⟩)))
theorem nf_ty {K : PySem.W.Frag} {C : Addr} {t : Value} (h : PySem.W.subIn K t (.ref C) = some false) : PySem.W.notFirst K C t = true := by
  unfold PySem.W.notFirst
  rw [h]
  simp
theorem r_unl {K : PySem.W.Frag} {mg : Str → Option Value} (T : Tx K mg) {c : Cw} {kn : Hp} {n : Nat} {Q : V → Hp → Nat → Prop} {s l : Addr} {r f e : Int} {v : V} {neg : Bool} (hs : CalAt T.c_Calendar kn s r f e) (u : Unl T.c_Calendar l kn r f e v)
    (q : ∀ k', Ext kn k' → Q (.bl neg) k' n) : W c (rEqO K T.c_Calendar (liftX (bEqC K T.c_Calendar)) neg (.ref s) v) kn n Q := by
  obtain ⟨dx, d, a1, a2⟩ := hs.at_
  have no : ∀ {t : Value}, TyX K kn v t → PySem.W.kitOne K t (.ref T.c_Calendar) = some false → PySem.W.notFirst K T.c_Calendar t = true → W c (rEqO K T.c_Calendar (liftX (bEqC K T.c_Calendar)) neg (.ref s) v) kn n Q := fun {t} ty k nf =>
    r_eqO mo_eqC a1 ty nf ⟨s, r, f, e, v, rfl, hs, .inr ⟨t, ty, k, false, rfl, by cases neg <;> exact q kn ext_rf⟩⟩
  rcases u with rfl | ⟨i, rfl⟩ | ⟨b, xs, rfl, h2⟩ | ⟨b, xs, rfl, h2, h3⟩ | ⟨b, r', f', e', rfl, h2, h3⟩
  · exact no (.base .non) T.kit_NoneType_Calendar (nf_ty T.si_Calendar_NoneType)
  · exact no (.base (.int i)) T.kit_int_Calendar (nf_ty T.si_Calendar)
  · exact no (.base (.tup h2)) T.kit_tuple_Calendar (nf_ty T.si_Calendar_tuple)
  · exact no (.base (.lst h3)) T.kit_list_Calendar (nf_ty T.si_Calendar_list)
  · exact r_eqCC T hs h2 fun k' e => by rw [decide_eq_false h3]; cases neg <;> exact q k' e
/-- the list so far -/
def Lot (C l a : Addr) (kn0 : Hp) (r f e : Int) (j : Nat) (k : Hp) : Prop := ∃ xs, k l = some (.lst xs) ∧ xs.length ≤ j ∧ (∀ v ∈ xs, Unl C l k r f e v) ∧ CalAt C k a r f e ∧ Ext kn0 k ∧ kn0 l = none
theorem Lot.up {C l a : Addr} {kn0 k : Hp} {r f e : Int} {i j : Nat} (h : i ≤ j) (q : Lot C l a kn0 r f e i k) : Lot C l a kn0 r f e j k := by
  obtain ⟨xs, h1, h2, h3⟩ := q
  exact ⟨xs, h1, by omega, h3⟩
theorem Lot.add {C l a b : Addr} {kn0 k k1 : Hp} {xs : List V} {r f e r' f' e' : Int} {j : Nat} (q : Lot C l a kn0 r f e j k) (x : Ext k k1) (hl : k1 l = some (.lst xs)) (hb : CalAt C k1 b r' f' e') (ne : ¬(r = r' ∧ f = f' ∧ e = e')) :
    xs.length ≤ j ∧ Lot C l a kn0 r f e (j + 1) (upd k1 l (.lst (xs ++ [.ref b]))) := by
  obtain ⟨ys, h1, h2, h3, h4, h5, h6⟩ := q
  have e1 := x _ _ h1
  rw [hl] at e1
  obtain rfl : xs = ys := by cases e1; rfl
  refine ⟨h2, xs ++ [.ref b], upd_same, by rw [List.length_append]; exact Nat.succ_le_succ h2, fun v hv => ?_, CalAt.put hl (h4.ext x), fun y o hy => ?_, h6⟩
  · rcases List.mem_append.1 hv with hv | hv
    · exact Unl.put hl ((h3 v hv).ext x)
    · rw [List.mem_singleton.1 hv]
      exact Unl.put hl (.inr (.inr (.inr (.inr ⟨b, r', f', e', rfl, hb, ne⟩))))
  · rw [upd_ne (fun z => by rw [z, h6] at hy; cases hy)]
    exact x _ _ (h5 _ _ hy)
section
variable {P : Program} {w : World} {K : PySem.W.Frag} {mg : Str → Option Value} {base : Heap}
theorem ok__law_unlike_right (T : Tx K mg) : FnOk P w K mg base CX0 10 T.f__law_unlike_right T.d__law_unlike_right ["made", "number", "start", "goal"] (liftX (bFace T.c_Calendar)) := by
  refine T.F__law_unlike_right.ok sc__law_unlike_right (fun vs H Q E h => ?_) (fun cdv A outer s H vs Q E hr h => ?_)
  · obtain ⟨kn, _, _, a, r, f, e, rfl, _⟩ := h
    rfl
  · obtain ⟨kn, ex, nt, a, r, f, e, rfl, st, h⟩ := h
    have d1 : -999999999999 ≤ f ∧ f ≤ 999999999999 := st.d1
    have d2 : -999999999999 ≤ e ∧ e ≤ 999999999999 := st.d2
    have l1 := st.lt
    have l2 := st.most
    have r1 : 1 ≤ r ∧ r ≤ 12 := st.rm
    have p12 : (10 : Int) ^ (12 : Int).toNat = 1000000000000 := by decide +kernel
    have dof : ∀ {i : Int}, -999999999999 ≤ i ∧ i ≤ 999999999999 → isDay i := fun h => h
    refine ⟨_, (pss_cons (ps_set (i := 4) sc__law_unlike_right.nd rfl (by first | exact Or.inl rfl | exact Or.inr rfl) (pe_lst (pa_cons pe_non (pa_cons (pv 1) (pa_cons (pe_tup (pa_cons (pv 1) (pa_cons (pv 2) (pa_cons (pv 3) pa_nil)))) (pa_cons (pe_lst (pa_cons (pv 0) pa_nil)) (pa_cons (pe_prop (pv 0) T.cl_Calendar T.pp_Calendar_free_rooms (ok_Calendar_free_rooms T) (hr.mono (by decide)) T.bd_Calendar_free_rooms .nil pass0 (by rfl)) pa_nil)))))))
       (pss_cons (ps_expr (pe_bm PySem.F.plainAttrs_list PySem.F.slot_list_append PySem.F.type_list_append mt_append (pv 4) (pa_cons (pe_make T.mk_Calendar (ok_Calendar___init__ T) (hr.mono (by decide)) (by rfl) T.g_Calendar T.bd_Calendar___init__ .nil passL (pa_cons (pe_op op_add (pe_op op_mod (pe_callTy c_int (by rfl) T.b_int boot_int (pa_cons (pv 1) pa_nil)) pe_int) pe_int) (pa_cons (pv 2) (pa_cons (pv 3) pa_nil)))) pa_nil)))
       (pss_cons (ps_if (pt_cmpR op_lt (pe_op op_add (pv 2) pe_int) (pe_op op_add (pv 3) pe_int) (nomark _))
       (pss_one (ps_expr (pe_bm PySem.F.plainAttrs_list PySem.F.slot_list_append PySem.F.type_list_append mt_append (pv 4) (pa_cons (pe_make T.mk_Calendar (ok_Calendar___init__ T) (hr.mono (by decide)) (by rfl) T.g_Calendar T.bd_Calendar___init__ .nil passL (pa_cons (pv 1) (pa_cons (pe_op op_add (pv 2) pe_int) (pa_cons (pv 3) pa_nil)))) pa_nil))))
       pss_nil)
       (pss_cons (ps_if (PW.pt (pw_and (pt_cmpR op_lt (pv 3) (pe_op op_add (pv 2) pe_int) (nomark _)) (pw_and1 (pt_cmpR op_lt (pv 3) (pe_op op_sub (pe_op op_pow pe_int pe_int) pe_int) (nomark _)))))
       (pss_one (ps_expr (pe_bm PySem.F.plainAttrs_list PySem.F.slot_list_append PySem.F.type_list_append mt_append (pv 4) (pa_cons (pe_make T.mk_Calendar (ok_Calendar___init__ T) (hr.mono (by decide)) (by rfl) T.g_Calendar T.bd_Calendar___init__ .nil passL (pa_cons (pv 1) (pa_cons (pv 2) (pa_cons (pe_op op_add (pv 3) pe_int) pa_nil)))) pa_nil))))
       pss_nil)
       (pss_cons (ps_if (pt_cmpR op_gt (pe_op op_sub (pv 3) (pv 2)) pe_int (nomark _))
       (pss_one (ps_expr (pe_bm PySem.F.plainAttrs_list PySem.F.slot_list_append PySem.F.type_list_append mt_append (pv 4) (pa_cons (pe_make T.mk_Calendar (ok_Calendar___init__ T) (hr.mono (by decide)) (by rfl) T.g_Calendar T.bd_Calendar___init__ .nil passL (pa_cons (pv 1) (pa_cons (pv 2) (pa_cons (pe_op op_sub (pv 3) pe_int) pa_nil)))) pa_nil))))
       pss_nil)
       (pss_one (ps_ret (pe_cmpR (show OpR _ _ (rEqD K) from op_eqD hr.units) (pe_lc (own := [("one", 5)]) (g := gName 5) (by rfl) sc__law_unlike_right.nd (pi_list (pv 4)) (blkOk_by (own := [("one", 5)]) (N := ["made", "number", "start", "goal", "some", "one"]) (sc := defScope s__law_unlike_right) (by decide +kernel)) (fun _ _ _ _ _ => pg_name (i := 5) sc__law_unlike_right.nd rfl (Or.inl rfl)) (fun _ _ _ _ _ => (pts_one (PW.pt (pw_or (pt_cmpR (show OpR _ _ (rEqO K T.c_Calendar (liftX (bEqC K T.c_Calendar)) false) from op_eqO T.eq_Calendar (ok_Calendar___eq__ T) (hr.mono (by decide)) T.bd_Calendar___eq__ pass0) (pv 0) (pv 5) (nomark _)) (pw_or1 (pt_not (pt_cmpR (show OpR _ _ (rEqO K T.c_Calendar (liftX (bEqC K T.c_Calendar)) true) from op_neO T.eq_Calendar (ok_Calendar___eq__ T) (hr.mono (by decide)) T.bd_Calendar___eq__ pass0) (pv 0) (pv 5) (nomark _)))))))) (fun _ _ _ _ _ => (pv 5))) (pe_lst pa_nil) (nomark _))))))))), ?_⟩
    refine body_of (pure_start ex nt) ?_
    walk_at "wi"
    refine ⟨show 3 ≤ 1000 by decide, fun p1 hp1 => w_gen hp1 fun k1 e1 f1 => ?_⟩
    walk_at "wi"
    refine ⟨show 1 ≤ 1000 by decide, fun p2 hp2 => w_gen hp2 fun k2 e2 f2 => ?_⟩
    walk_at "wi"
    refine w_free rfl (st.ext (ext_tr e1 e2)) fun p3 k3 e3 _ f3 => ?_
    walk_at "wi"
    refine ⟨show 5 ≤ 1000 by decide, fun l hl => ws_gen hl fun k4 e4 f4 => ?_⟩
    have E3 := ext_tr e1 (ext_tr e2 e3)
    have lt4 : Lot T.c_Calendar l a kn r f e 5 k4 := by
      have n2 : p2 ≠ l := fun z => by rw [← z, e3 _ _ f2] at hl; cases hl
      refine ⟨_, f4, Nat.le_refl 5, fun v hv => ?_, st.ext (ext_tr E3 e4), ext_tr E3 e4, free_ext E3 hl⟩
      simp only [List.mem_cons, List.mem_nil_iff, or_false] at hv
      rcases hv with rfl | rfl | rfl | rfl | rfl
      · exact .inl rfl
      · exact .inr (.inl ⟨_, rfl⟩)
      · exact .inr (.inr (.inl ⟨p1, _, rfl, e4 _ _ (e3 _ _ (e2 _ _ f1))⟩))
      · exact .inr (.inr (.inr (.inl ⟨p2, _, rfl, n2, e4 _ _ (e3 _ _ f2)⟩)))
      · exact .inr (.inr (.inl ⟨p3, _, rfl, e4 _ _ f3⟩))
    clear e1 e2 e3 e4 E3 f1 f2 f3 f4 hl hp1 hp2
    walk_at "wi"
    obtain ⟨xs4, g4, _⟩ := id lt4
    refine w_append rfl g4 ?_
    refine w_cons (w_cal err_no ?_)
    walk_at "wi"
    refine r_I (by omega) ?_
    walk_at "wi"
    refine ⟨_, _, _, rfl, .inl ⟨r % 12 + 1, f, e, rfl, rfl, rfl, ⟨by omega, by omega⟩, st.d1, st.d2, st.lt, st.most, fun x k5 e5 n5 c5 => ?_⟩⟩
    have A := lt4.add e5 (e5 _ _ g4) c5 (by omega)
    walk_at "wi"
    refine ⟨_, xs4, rfl, e5 _ _ g4, Nat.le_trans A.1 (by decide), ?_⟩
    have lt6 := A.2
    generalize upd k5 l (.lst (xs4 ++ [.ref x])) = k6 at lt6 ⊢
    clear A e5 n5 c5 lt4 g4
    refine s_seq (s_join (fun σ' k n => n = 0 ∧ σ' = [some (.ref a), some (.int r), some (.int f), some (.int e), some (.ref l), none] ∧ Lot T.c_Calendar l a kn r f e 7 k) ?_ ?_)
    · walk_at "wi"
      refine ⟨fun hb => ?_, fun _ => ?_⟩
      · have hb := of_decide_eq_true hb
        have LT := lt6
        obtain ⟨ys, g, _⟩ := id LT
        walk_at "wi"
        refine w_append rfl g ?_
        refine w_cons (w_cal err_no ?_)
        walk_at "wi"
        refine ⟨_, _, _, rfl, .inl ⟨r, f + 1, e, rfl, rfl, rfl, st.rm, dof (by omega), st.d2, by omega, by omega, fun x k5 e5 n5 c5 => ?_⟩⟩
        have A := LT.add e5 (e5 _ _ g) c5 (by omega)
        walk_at "wi"
        refine ⟨_, ys, rfl, e5 _ _ g, Nat.le_trans A.1 (by decide), ?_⟩
        exact ⟨rfl, rfl, A.2⟩
      · exact s_next ⟨rfl, rfl, lt6.up (by decide)⟩
    · rintro σ' k n ⟨rfl, rfl, lt7⟩
      refine s_seq (s_join (fun σ' k n => n = 0 ∧ σ' = [some (.ref a), some (.int r), some (.int f), some (.int e), some (.ref l), none] ∧ Lot T.c_Calendar l a kn r f e 8 k) ?_ ?_)
      · walk_at "wi"
        refine ⟨fun hb => ?_, fun _ => ?_⟩
        · have hb := of_decide_eq_true hb
          walk_at "wi"
          refine r_I ⟨by decide, by decide, by decide⟩ ?_
          walk_at "wi"
          rw [p12]
          refine ⟨fun hc => ?_, fun _ => ?_⟩
          · have hc := of_decide_eq_true hc
            have LT := lt7
            obtain ⟨ys, g, _⟩ := id LT
            walk_at "wi"
            refine w_append rfl g ?_
            refine w_cons (w_cal err_no ?_)
            walk_at "wi"
            refine ⟨_, _, _, rfl, .inl ⟨r, f, e + 1, rfl, rfl, rfl, st.rm, st.d1, dof (by omega), by omega, by omega, fun x k5 e5 n5 c5 => ?_⟩⟩
            have A := LT.add e5 (e5 _ _ g) c5 (by omega)
            walk_at "wi"
            refine ⟨_, ys, rfl, e5 _ _ g, Nat.le_trans A.1 (by decide), ?_⟩
            exact ⟨rfl, rfl, A.2⟩
          · exact s_next ⟨rfl, rfl, lt7.up (by decide)⟩
        · walk_at "wi"
          exact lt7.up (by decide)
      · rintro σ' k n ⟨rfl, rfl, lt8⟩
        refine s_seq (s_join (fun σ' k n => n = 0 ∧ σ' = [some (.ref a), some (.int r), some (.int f), some (.int e), some (.ref l), none] ∧ Lot T.c_Calendar l a kn r f e 9 k) ?_ ?_)
        · walk_at "wi"
          refine ⟨fun hb => ?_, fun _ => ?_⟩
          · have hb := of_decide_eq_true hb
            have LT := lt8
            obtain ⟨ys, g, _⟩ := id LT
            walk_at "wi"
            refine w_append rfl g ?_
            refine w_cons (w_cal err_no ?_)
            walk_at "wi"
            refine ⟨_, _, _, rfl, .inl ⟨r, f, e - 1, rfl, rfl, rfl, st.rm, st.d1, dof (by omega), by omega, by omega, fun x k5 e5 n5 c5 => ?_⟩⟩
            have A := LT.add e5 (e5 _ _ g) c5 (by omega)
            walk_at "wi"
            refine ⟨_, ys, rfl, e5 _ _ g, Nat.le_trans A.1 (by decide), ?_⟩
            exact ⟨rfl, rfl, A.2⟩
          · exact s_next ⟨rfl, rfl, lt8.up (by decide)⟩
        · rintro σ' k n ⟨rfl, rfl, lt9⟩
          clear lt6 lt7 lt8
          obtain ⟨xs, g1, g2, g3, g4, g5, g6⟩ := lt9
          walk_at "wi"
          refine w_lc (i_list ?_)
          walk_at "wi"
          refine ⟨l, xs, rfl, g1, xs, _, (fun D i acc k' m => m = 0 ∧ acc = [] ∧ k D = none ∧ Ext k k' ∧ k' D = some (.lst [])), gives_lst, by omega, fun D hD => ⟨rfl, rfl, hD, ext_new hD, upd_same⟩, ?_, ?_, ?_⟩
          · rintro D i acc k' m ⟨rfl, rfl, hD, ek, kD⟩
            exact ⟨ek _ _ g1, kD, Nat.zero_le _⟩
          · rintro D i acc x k' m hx ⟨rfl, rfl, hD, ek, kD⟩
            have u := (g3 x (List.mem_of_getElem? hx)).ext ek
            refine g_name ⟨rfl, ?_⟩
            walk_at "wi"
            refine r_unl T (g4.ext ek) u fun k2 e2 => ?_
            walk_at "wi"
            refine r_unl T (g4.ext (ext_tr ek e2)) (u.ext e2) fun k3 e3 => ?_
            walk_at "wi"
            exact ⟨hD, ext_tr ek (ext_tr e2 e3), (ext_tr e2 e3) _ _ kD⟩
          · rintro D acc k' m ⟨rfl, rfl, hD, ek, kD⟩
            walk_at "wi"
            refine ⟨show 0 ≤ 1000 by decide, fun p9 hp9 => w_gen hp9 fun k9 e9 f9 => ?_⟩
            refine r_eq_d (d := .list []) (e := .list []) (.lst (sql (e9 _ _ kD)) .nil) (.lst (sql f9) .nil) (by decide +kernel) (by decide +kernel) ?_
            rw [show PyData.eqv (.list []) (.list []) = true by decide +kernel]
            exact h _ (ext_tr g5 (ext_tr ek e9)) 0
end

end NN

namespace NN
open PySem PySem.Spec PyProof.Rows L2 LamX AW ClX
/-! ### the law -/
def AnyC (K : PySem.W.Frag) (kn : Hp) (v : V) : Prop := (∃ i, v = .int i) ∨ Odd K kn v
theorem AnyC.ext {K : PySem.W.Frag} {kn kn' : Hp} {v : V} (e : Ext kn kn') (h : AnyC K kn v) : AnyC K kn' v := h.imp id fun q => odd_ext e q
theorem AnyC.of {K : PySem.W.Frag} {kn : Hp} {v : V} (h : NotDay K kn v) : AnyC K kn v := h.imp (fun ⟨i, e, _⟩ => ⟨i, e⟩) id
theorem day_or {K : PySem.W.Frag} {kn : Hp} {v : V} (h : AnyC K kn v) : (∃ i, v = .int i ∧ isDay i) ∨ NotDay K kn v := by
  rcases h with ⟨i, rfl⟩ | h
  · by_cases d : -lastDay ≤ i ∧ i ≤ lastDay
    · exact .inl ⟨i, rfl, d⟩
    · exact .inr (.inl ⟨i, rfl, d⟩)
  · exact .inr (.inr h)
theorem wrong_all {K : PySem.W.Frag} {kn : Hp} {x y z : V} (hx : AnyC K kn x) (hy : AnyC K kn y) (hz : AnyC K kn z) : WrongIs K kn x y z .non ∨ ∃ part : Str, (part = "rooms" ∨ part = "first" ∨ part = "after") ∧ WrongIs K kn x y z (.str part) := by
  rcases hx with ⟨a, rfl⟩ | hx
  · by_cases ra : 1 ≤ a ∧ a ≤ 12
    · rcases day_or hy with ⟨b, rfl, db⟩ | nd
      · rcases day_or hz with ⟨c, rfl, dc⟩ | nd
        · by_cases l : b < c ∧ c ≤ b + 40
          · exact .inl (.inl ⟨a, b, c, rfl, rfl, rfl, ra, db, dc, l.1, l.2, rfl⟩)
          · exact .inr ⟨_, .inr (.inr rfl), .inr (.inr (.inr ⟨a, b, rfl, ra, rfl, db, .inr ⟨c, rfl, dc, l⟩, rfl⟩))⟩
        · exact .inr ⟨_, .inr (.inr rfl), .inr (.inr (.inr ⟨a, b, rfl, ra, rfl, db, .inl nd, rfl⟩))⟩
      · exact .inr ⟨_, .inr (.inl rfl), .inr (.inr (.inl ⟨a, rfl, ra, nd, rfl⟩))⟩
    · exact .inr ⟨_, .inl rfl, .inr (.inl ⟨.inl ⟨a, rfl, ra⟩, rfl⟩)⟩
  · exact .inr ⟨_, .inl rfl, .inr (.inl ⟨.inr hx, rfl⟩)⟩
section
variable {K : PySem.W.Frag} {kn : Hp} {n : Nat} {σ : L2.St} {Q : V → Hp → Nat → Prop} {p a : Addr} {ns : List Int} {TT : List (Addr × Str)} {C B : Addr} {t : TA}
theorem w_lamBad {part : Str} (h : W (penC p a ns TT) (t σ) kn n fun vs kn1 n1 => ∃ x y z, vs = [x, y, z] ∧ WrongIs K kn1 x y z (.str part) ∧ ∀ q k', Ext kn1 k' → k' q = some (.tup [.str "calendar", .str part]) → Q (.ref q) k' n1) :
    W (penC p a ns TT) (tLam TT (TTh B "calendar") (fun EE => tMake C (liftX (bCal K C B)) [] EE t) σ) kn n Q :=
  w_lam fun E hE => by
    refine w_cal hE (h.mono fun vs kn1 n1 hv => ?_)
    obtain ⟨x, y, z, rfl, hw, hq⟩ := hv
    have bad : BadC B kn1 part (fun cls d k => EAh B "calendar" Q cls d k n1) := fun d k1 e1 nd hd => ⟨rfl, d, _, .str part, rfl, hd, rfl, fun q k2 e2 nq q1 => hq q k2 (ext_tr e1 e2) q1⟩
    refine ⟨x, y, z, rfl, ?_⟩
    rcases hw with ⟨_, _, _, _, _, _, _, _, _, _, _, e⟩ | ⟨nr, e⟩ | ⟨r, e1, ra, nd, e⟩ | ⟨r, f, e1, ra, e2, db, nd, e⟩
    · cases e
    · cases e
      exact .inr (.inl ⟨nr, bad⟩)
    · cases e
      exact .inr (.inr (.inl ⟨r, e1, ra, nd, bad⟩))
    · cases e
      exact .inr (.inr (.inr ⟨r, f, e1, ra, e2, db, nd, bad⟩))
theorem w_lamGood (h : W (penC p a ns TT) (t σ) kn n fun vs kn1 n1 => ∃ r f e, vs = [.int r, .int f, .int e] ∧ isRm r ∧ isDay f ∧ isDay e ∧ f < e ∧ e ≤ f + 40 ∧ ∀ s b k', Ext kn1 k' → CalAt C k' s r f e → k' b = some (.lst [.ref s]) → Q (.ref b) k' n1) :
    W (penC p a ns TT) (tLam TT (TTh B "calendar") (fun EE => tMake C (liftX (bCal K C B)) [] EE t) σ) kn n Q :=
  w_lam fun E hE => by
    refine w_cal hE (h.mono fun vs kn1 n1 hv => ?_)
    obtain ⟨r, f, e, rfl, b1, b2, b3, b4, b5, hq⟩ := hv
    exact ⟨_, _, _, rfl, .inl ⟨r, f, e, rfl, rfl, rfl, b1, b2, b3, b4, b5, fun x k1 e1 n1 c1 b hb => hq x b _ (ext_tr e1 (ext_new hb)) (c1.ext (ext_new hb)) upd_same⟩⟩
end
def spLaw {K : PySem.W.Frag} {mg : Str → Option Value} (T : Tx K mg) : Sp := fun vs H Q _ => ∃ (sc : Addr) (ns : List Int), vs = [.ref sc] ∧ SqL K H sc (ns.map V.int) ∧ Tabs (tabsT T) H ∧ ∀ H', Q (.bl true) H'
theorem tabs_new {T : List (Addr × Str)} {H : Hp} (h : ∀ p ∈ T, H p.1 = some (.tbl #[])) : Tabs T H := fun p hp => ⟨#[], h p hp, by simp [TriplesOk], fun pos cv hc => by simp [codeAmong] at hc⟩
section
variable {P : Program} {w : World} {K : PySem.W.Frag} {mg : Str → Option Value} {base : Heap}
theorem ok_law (T : Tx K mg) (TB : TabB base mg T.cc_law T.tp_law) : L2.FnG P w K mg base CX0 40 T.f_law T.d_law ["script"] (spLaw T) := by
  obtain ⟨oc, od, kV, doc, pm, an, cdH, ct, osl, hfd, lkH, hcdH⟩ := T.F__law_heard.ex
  have bdH := T.bd__law_heard
  rw [hfd] at bdH lkH
  refine T.F_law.okGC sc_law (fun vs H Q E h => ?_) (fun A outer s H vs Q E hr hg h => ?_)
  · obtain ⟨sc, ns, rfl, _⟩ := h
    rfl
  · obtain ⟨sc, ns, rfl, hs, hT, h⟩ := h
    refine ⟨_, (pss_cons (ps_set (i := 1) sc_law.nd rfl (by first | exact Or.inl rfl | exact Or.inr rfl) (pe_call (ok__law_pen T) (hr.mono (by decide)) (by rfl) T.g__law_pen T.F__law_pen.kp T.bd__law_pen .nil pass0 (pa_cons (pv 0) pa_nil)))
       (pss_cons (ps_for PassesOwn.never rfl (pi_range1 (by rfl) T.b_range (pa_cons pe_int pa_nil)) (pg_name (i := 2) sc_law.nd rfl (by first | exact Or.inl rfl | exact Or.inr rfl))
       (pss_cons (ps_set (i := 3) sc_law.nd rfl (by first | exact Or.inl rfl | exact Or.inr rfl) (pe_call (ok__law_pick T (tabsT T)) (hr.mono (by decide)) (by rfl) T.g__law_pick T.F__law_pick.kp T.bd__law_pick .nil pass0 (pa_cons (pv 1) (pa_cons (pe_lst (pa_cons pe_int (pa_cons pe_int (pa_cons pe_int (pa_cons pe_int (pa_cons pe_int (pa_cons pe_int (pa_cons pe_int (pa_cons (pe_un un_neg pe_int) (pa_cons (pe_call (ok__law_odd T) (hr.mono (by decide)) (by rfl) T.g__law_odd T.F__law_odd.kp T.bd__law_odd .nil pass0 (pa_cons (pv 1) pa_nil)) (pa_cons (pe_op op_add pe_int (pe_call (ok__law_draw T) (hr.mono (by decide)) (by rfl) T.g__law_draw T.F__law_draw.kp T.bd__law_draw .nil pass0 (pa_cons (pv 1) (pa_cons pe_int pa_nil)))) pa_nil))))))))))) pa_nil))))
       (pss_cons (ps_set (i := 4) sc_law.nd rfl (by first | exact Or.inl rfl | exact Or.inr rfl) (pe_call (ok__law_pick T (tabsT T)) (hr.mono (by decide)) (by rfl) T.g__law_pick T.F__law_pick.kp T.bd__law_pick .nil pass0 (pa_cons (pv 1) (pa_cons (pe_lst (pa_cons pe_int (pa_cons pe_int (pa_cons pe_int (pa_cons (pe_un un_neg pe_int) (pa_cons (pe_op op_sub (pe_op op_pow pe_int pe_int) pe_int) (pa_cons (pe_op op_sub (pe_op op_pow pe_int pe_int) pe_int) (pa_cons (pe_op op_sub pe_int (pe_op op_pow pe_int pe_int)) (pa_cons (pe_op op_sub pe_int (pe_op op_pow pe_int pe_int)) (pa_cons (pe_call (ok__law_odd T) (hr.mono (by decide)) (by rfl) T.g__law_odd T.F__law_odd.kp T.bd__law_odd .nil pass0 (pa_cons (pv 1) pa_nil)) pa_nil)))))))))) pa_nil))))
       (pss_cons (ps_set (i := 5) sc_law.nd rfl (by first | exact Or.inl rfl | exact Or.inr rfl) (pe_ifExp (pt_val (pe_call (ok__law_is_day T) (hr.mono (by decide)) (by rfl) T.g__law_is_day T.F__law_is_day.kp T.bd__law_is_day .nil pass0 (pa_cons (pv 4) pa_nil))) (pv 4) pe_int))
       (pss_cons (ps_set (i := 6) sc_law.nd rfl (by first | exact Or.inl rfl | exact Or.inr rfl) (pe_op op_add (pv 5) (pe_call (ok__law_pick T (tabsT T)) (hr.mono (by decide)) (by rfl) T.g__law_pick T.F__law_pick.kp T.bd__law_pick .nil pass0 (pa_cons (pv 1) (pa_cons (pe_lst (pa_cons pe_int (pa_cons pe_int (pa_cons pe_int (pa_cons pe_int (pa_cons pe_int (pa_cons pe_int (pa_cons (pe_un un_neg pe_int) (pa_cons (pe_op op_add pe_int (pe_call (ok__law_draw T) (hr.mono (by decide)) (by rfl) T.g__law_draw T.F__law_draw.kp T.bd__law_draw .nil pass0 (pa_cons (pv 1) (pa_cons pe_int pa_nil)))) pa_nil))))))))) pa_nil)))))
       (pss_cons (ps_set (i := 6) sc_law.nd rfl (by first | exact Or.inl rfl | exact Or.inr rfl) (pe_ifExp (pt_cmpR op_eq (pe_call (ok__law_draw T) (hr.mono (by decide)) (by rfl) T.g__law_draw T.F__law_draw.kp T.bd__law_draw .nil pass0 (pa_cons (pv 1) (pa_cons pe_int pa_nil))) pe_int (nomark _)) (pe_call (ok__law_odd T) (hr.mono (by decide)) (by rfl) T.g__law_odd T.F__law_odd.kp T.bd__law_odd .nil pass0 (pa_cons (pv 1) pa_nil)) (pv 6)))
       (pss_cons (ps_set (i := 7) sc_law.nd rfl (by first | exact Or.inl rfl | exact Or.inr rfl) (pe_call (ok__law_wrong T) (hr.mono (by decide)) (by rfl) T.g__law_wrong T.F__law_wrong.kp T.bd__law_wrong .nil pass0 (pa_cons (pv 3) (pa_cons (pv 4) (pa_cons (pv 6) pa_nil)))))
       (pss_cons (ps_set (i := 8) sc_law.nd rfl (by first | exact Or.inl rfl | exact Or.inr rfl) (pe_lamcall (T := tabsT T) (TT := TTh T.c_BadCalendar "calendar") (t := fun EE => tMake T.c_Calendar (liftX (bCal K T.c_Calendar T.c_BadCalendar)) [] EE (tCons (tVar 3) (tCons (tVar 4) (tCons (tVar 6) tNil)))) (k := 12) (by rfl) T.g__law_heard T.F__law_heard.kp lkH hcdH bdH sc__law_heard rfl (Or.inl rfl) (gives_heard T rfl rfl rfl rfl) TB T.code_law (by first | exact .head _ | exact .tail _ (.head _)) (tabs_law T) (hr.mono (by decide)) (lamS_by (sc := defScope s_law) (by decide +kernel)) rfl (fun _ _ _ _ _ => rfl) (fun AL outerL sL HL EL fL cL hr => (pe_make T.mk_Calendar (ok_Calendar___init__ T) (hr.mono (by decide)) (by rfl) T.g_Calendar T.bd_Calendar___init__ .nil (passes_call (takes_of rfl rfl rfl rfl) (fun _ _ _ _ h => h)) (pa_cons (pv 3) (pa_cons (pv 4) (pa_cons (pv 6) pa_nil)))))))
       (pss_one (ps_if (pt_cmpR c_notN (pv 7) pe_non (nomark _))
       (pss_one (ps_if (pt_cmpR (op_neD hr.units) (pv 8) (pe_tup (pa_cons pe_str (pa_cons (pv 7) pa_nil))) (nomark _))
       (pss_one (ps_ret pe_bl))
       pss_nil))
       (pss_one (ps_if (PW.pt (pw_or (pt_not (pt_val (pe_callB call_isi (by rfl) T.b_isinstance (by decide +kernel) (pa_cons (pv 8) (pa_cons (pe_bltn (v := .ty "list") (u := .type "list") (by rfl) T.b_list (by decide +kernel) rfl) pa_nil))))) (pw_or1 (pt_not (pt_val (pe_callG hg (ok__law_face_right T) (hr.mono (by decide)) (by rfl) T.g__law_face_right T.F__law_face_right.kp T.bd__law_face_right .nil pass0 (pa_cons (pe_ix (show IxR _ (rIxL K) from ix_list) (pv 8) pe_int (fun _ _ => rfl)) (pa_cons (pv 3) (pa_cons (pv 4) (pa_cons (pv 6) pa_nil))))))))))
       (pss_one (ps_ret pe_bl))
       (pss_one (ps_if (pt_not (pt_val (pe_call (ok__law_unlike_right T) (hr.mono (by decide)) (by rfl) T.g__law_unlike_right T.F__law_unlike_right.kp T.bd__law_unlike_right .nil pass0 (pa_cons (pe_ix (show IxR _ (rIxL K) from ix_list) (pv 8) pe_int (fun _ _ => rfl)) (pa_cons (pv 3) (pa_cons (pv 4) (pa_cons (pv 6) pa_nil)))))))
       (pss_one (ps_ret pe_bl))
       pss_nil))))))))))))))
       (pss_one (ps_ret (pe_cmpR (show OpR _ _ (rEqD K) from op_eqD hr.units) (pe_lst (pa_cons (pe_cval (pe_glob (v := .ref T.c_Calendar) (by rfl) T.g_Calendar rfl)) (pa_cons (pe_cval (pe_glob (v := .ref T.c_Calendar) (by rfl) T.g_Calendar rfl)) (pa_cons (pe_cval (pe_glob (v := .ref T.c_Calendar) (by rfl) T.g_Calendar rfl)) pa_nil)))) (pe_lst (pa_cons pe_int (pa_cons pe_int (pa_cons pe_int pa_nil)))) (nomark _)))))), ?_⟩
    refine ⟨_, rfl, sc, ns, rfl, hs, fun p a ns' H1 pa hp ha h1 h2 eH => ?_⟩
    have g1 : AW.Good (penC p a ns' (tabsT T)) (fun _ => none) 0 H1 := ⟨fun x o z => (by cases z), ⟨⟨⟨0, 0, h1, by omega, by omega, by omega⟩, h2, pa⟩, Tabs.keep (fun b o z _ => eH b o z) hT⟩, fun _ _ => rfl, fun x o z => (by cases z)⟩
    have p12 : (10 : Int) ^ (12 : Int).toNat = 1000000000000 := by decide +kernel
    have sh : ∀ part : Str, (part = "rooms" ∨ part = "first" ∨ part = "after") → SeqAt.shaped (.tuple [.str "calendar", .str part]) = true ∧ (!PyData.eqv (.tuple [.str "calendar", .str part]) (.tuple [.str "calendar", .str part])) = false := by
      rintro part (rfl | rfl | rfl) <;> exact ⟨by decide +kernel, by decide +kernel⟩
    refine gname_run ?_
    dsimp only
    refine body_of g1 ?_
    refine s_seq ?_
    refine s_join (fun σ' kn' n' => n' ≤ 300 ∧ ∃ x0 x2 x3 x4 x5 x6 x7 x8, σ' = [x0, some (.ref p), x2, x3, x4, x5, x6, x7, x8]) ?_ ?_
    · refine s_forR1 (j := 12) (fun i σ' kn' n' => n' ≤ 20 * i ∧ ∃ x0 x2 x3 x4 x5 x6 x7 x8, σ' = [x0, some (.ref p), x2, x3, x4, x5, x6, x7, x8]) ?_ ?_ ?_
      · walk_at "w"
        refine ⟨rfl, by decide, by decide, by omega, ?_⟩
        exact ⟨_, _, _, _, _, _, _, _, rfl⟩
      · rintro i σ' kn n hi ⟨hn, x0, x2, x3, x4, x5, x6, x7, x8, rfl⟩
        have hi8 : i < 12 := hi
        walk_at "w"
        refine w_callP mo_pick err_no ?_
        walk_at "w"
        refine w_callP mo_oddV err_no ?_
        walk_at "w"
        refine ⟨by omega, rfl, fun v1 k1 e1 nd1 => ?_⟩
        walk_at "w"
        refine w_draw ?_
        walk_at "w"
        refine ⟨by omega, by decide, by decide, fun d1 d10 d11 => ?_⟩
        walk_at "w"
        refine ⟨show 10 ≤ 1000 by decide, fun l hl => w_gen hl fun k2 e2 f2 => ?_⟩
        walk_at "w"
        refine ⟨by omega, _, _, rfl, f2, show 0 < 10 by decide, show 10 ≤ 1000 by decide, fun vn hv => ?_⟩
        have an : AnyC K k2 vn := by
          simp only [List.mem_cons, List.mem_nil_iff, or_false] at hv
          rcases hv with rfl | rfl | rfl | rfl | rfl | rfl | rfl | rfl | rfl | rfl
          all_goals first | exact .inl ⟨_, rfl⟩ | exact (AnyC.of nd1).ext e2
        clear hv nd1 hl e1 e2 f2
        walk_at "w"
        refine w_callP mo_pick err_no ?_
        walk_at "w"
        refine r_I ⟨by decide, by decide, by decide⟩ ?_
        walk_at "w"
        refine r_I ⟨by decide, by decide, by decide⟩ ?_
        walk_at "w"
        refine r_I ⟨by decide, by decide, by decide⟩ ?_
        walk_at "w"
        refine r_I ⟨by decide, by decide, by decide⟩ ?_
        walk_at "w"
        refine w_callP mo_oddV err_no ?_
        walk_at "w"
        refine ⟨by omega, rfl, fun v3 k3 e3 nd3 => ?_⟩
        walk_at "w"
        refine ⟨show 9 ≤ 1000 by decide, fun l hl => w_gen hl fun k4 e4 f4 => ?_⟩
        walk_at "w"
        refine ⟨by omega, _, _, rfl, f4, show 0 < 9 by decide, show 9 ≤ 1000 by decide, fun vs hv => ?_⟩
        have as : AnyC K k4 vs := by
          simp only [List.mem_cons, List.mem_nil_iff, or_false] at hv
          rcases hv with rfl | rfl | rfl | rfl | rfl | rfl | rfl | rfl | rfl
          all_goals first | exact .inl ⟨_, rfl⟩ | exact (AnyC.of nd3).ext e4
        replace an := (an.ext e3).ext e4
        clear hv nd3 hl e3 e4 f4
        refine s_seq (s_join (fun σ' k m => m = n + 5 ∧ k = k4 ∧ ∃ (i : Int) (y2 : Option V), σ' = [x0, some (.ref p), y2, some vn, some vs, some (.int i), x6, x7, x8]) ?_ ?_)
        · walk_at "w"
          refine w_call mo_lday err_no ?_
          walk_at "w"
          rcases day_or as with ⟨b, rfl, db⟩ | nd
          · refine ⟨_, rfl, .inl ⟨b, rfl, db, ?_⟩⟩
            walk_at "w"
            exact ⟨_, _, rfl⟩
          · refine ⟨_, rfl, .inr ⟨nd, ?_⟩⟩
            walk_at "w"
            exact ⟨_, _, rfl⟩
        · rintro σ' k m ⟨rfl, rfl, i0, y2, rfl⟩
          walk_at "w"
          refine w_callP mo_pick err_no ?_
          walk_at "w"
          refine w_draw ?_
          walk_at "w"
          refine ⟨by omega, by decide, by decide, fun d2 d20 d21 => ?_⟩
          walk_at "w"
          refine ⟨show 8 ≤ 1000 by decide, fun l hl => w_gen hl fun k5 e5 f5 => ?_⟩
          walk_at "w"
          refine ⟨by omega, _, _, rfl, f5, show 0 < 8 by decide, show 8 ≤ 1000 by decide, fun vg hv => ?_⟩
          obtain ⟨g0, rfl⟩ : ∃ j : Int, vg = .int j := by
            simp only [List.mem_cons, List.mem_nil_iff, or_false] at hv
            rcases hv with rfl | rfl | rfl | rfl | rfl | rfl | rfl | rfl <;> exact ⟨_, rfl⟩
          replace an := an.ext e5
          replace as := as.ext e5
          clear hv hl e5 f5
          refine r_I0 ?_
          refine s_seq (s_join (fun σ' k m => m ≤ n + 10 ∧ Ext k5 k ∧ ∃ vz, AnyC K k vz ∧ σ' = [x0, some (.ref p), y2, some vn, some vs, some (.int i0), some vz, x7, x8]) ?_ ?_)
          · walk_at "w"
            refine w_draw ?_
            walk_at "w"
            refine ⟨by omega, by decide, by decide, fun d3 d30 d31 => ?_⟩
            walk_at "w"
            refine ⟨fun _ => ?_, fun _ => ?_⟩
            · walk_at "w"
              refine w_callP mo_oddV err_no ?_
              walk_at "w"
              refine ⟨by omega, rfl, fun v6 k6 e6 nd6 => ?_⟩
              walk_at "w"
              exact ⟨by omega, e6, v6, AnyC.of nd6, rfl⟩
            · walk_at "w"
              exact ⟨by omega, ext_rf, _, .inl ⟨_, rfl⟩, rfl⟩
          · rintro σ' k m ⟨hm, ek, vz, az, rfl⟩
            replace an := an.ext ek
            replace as := as.ext ek
            clear ek
            walk_at "w"
            refine w_call mo_wrong err_no ?_
            walk_at "w"
            rcases wrong_all an as az with hw | ⟨part, hpt, hw⟩
            · rcases hw with ⟨a1, b1, c1, rfl, rfl, rfl, ra, db, dc, l1, l2, _⟩ | ⟨_, e⟩ | ⟨_, _, _, _, e⟩ | ⟨_, _, _, _, _, _, _, e⟩
              · refine ⟨_, _, _, .non, rfl, .inl ⟨a1, b1, c1, rfl, rfl, rfl, ra, db, dc, l1, l2, rfl⟩, ?_⟩
                walk_at "w"
                refine w_lamGood ?_
                walk_at "w"
                refine ⟨a1, b1, c1, rfl, ra, db, dc, l1, l2, fun s b k6 e6 c6 f6 => ?_⟩
                walk_at "wi"
                refine r_notN ?_
                walk_at "wi"
                refine ⟨fun z => absurd z (by decide), fun _ => ?_⟩
                walk_at "wi"
                refine r_isi (.ty _) (.base (.lst f6)) (kit_ty rfl) ?_
                walk_at "wi"
                refine w_call mo_face err_no ?_
                walk_at "wi"
                refine ⟨s, a1, b1, c1, rfl, c6, fun k7 e7 => ?_⟩
                walk_at "wi"
                replace f6 := e7 _ _ f6
                refine w_call mo_face err_no ?_
                walk_at "wi"
                refine ⟨s, a1, b1, c1, rfl, c6.ext e7, fun k8 e8 => ?_⟩
                walk_at "wi"
                exact ⟨by omega, _, _, _, _, _, _, _, _, rfl⟩
              all_goals cases e
            · refine ⟨_, _, _, .str part, rfl, hw, ?_⟩
              walk_at "w"
              refine w_lamBad (part := part) ?_
              walk_at "w"
              refine ⟨_, _, _, rfl, hw, fun q k6 e6 f6 => ?_⟩
              walk_at "wi"
              refine r_notN ?_
              walk_at "wi"
              refine ⟨fun _ => ?_, fun z => absurd z (by simp)⟩
              walk_at "wi"
              refine ⟨show 2 ≤ 1000 by decide, fun t ht => w_gen ht fun k7 e7 f7 => ?_⟩
              refine r_ne_d (d := .tuple [.str "calendar", .str part]) (e := .tuple [.str "calendar", .str part]) (.tup (sqt (e7 _ _ f6)) (.cons (.str _) (.cons (.str _) .nil))) (.tup (sqt f7) (.cons (.str _) (.cons (.str _) .nil))) (sh part hpt).1 (sh part hpt).1 ?_
              rw [(sh part hpt).2]
              walk_at "wi"
              exact ⟨by omega, _, _, _, _, _, _, _, _, rfl⟩
      · rintro σ' kn' n' ⟨hn, q⟩
        exact ⟨by omega, q⟩
    · rintro σ' kn n ⟨hn, x0, x2, x3, x4, x5, x6, x7, x8, rfl⟩
      obtain ⟨u1, c1⟩ := T.cv_Calendar_ROOMS
      obtain ⟨u2, c2⟩ := T.cv_Calendar_NIGHTS
      obtain ⟨u3, c3⟩ := T.cv_Calendar_GUESTS
      walk_at "w"
      refine ⟨_, _, _, _, rfl, T.cr_Calendar, c1, ?_⟩
      walk_at "w"
      refine ⟨_, _, _, _, rfl, T.cr_Calendar, c2, ?_⟩
      walk_at "w"
      refine ⟨_, _, _, _, rfl, T.cr_Calendar, c3, ?_⟩
      walk_at "w"
      refine ⟨show 3 ≤ 1000 by decide, fun l1 hl1 => w_gen hl1 fun k1 e1 f1 => ?_⟩
      walk_at "w"
      refine ⟨show 3 ≤ 1000 by decide, fun l2 hl2 => w_gen hl2 fun k2 e2 f2 => ?_⟩
      refine r_eq_d (d := .list [.int 12, .int 40, .int 100]) (e := .list [.int 12, .int 40, .int 100]) (.lst (sql (e2 _ _ f1)) (.cons (.int _) (.cons (.int _) (.cons (.int _) .nil)))) (.lst (sql f2) (.cons (.int _) (.cons (.int _) (.cons (.int _) .nil)))) (by decide +kernel) (by decide +kernel) ?_
      rw [show PyData.eqv (.list [.int 12, .int 40, .int 100]) (.list [.int 12, .int 40, .int 100]) = true by decide +kernel]
      exact fun H' _ => h H'
end
/-- the law at its head -/
theorem law_at {l : PySem.W.OpenLaw} {w : World} {K : PySem.W.Frag} {mg : Str → Option Value} {h : Heap} {fa : Addr} (T : Tx K mg) (hfa : T.f_law = fa) (hc1 : PySem.W.CodeHd h T.cc_law T.tp_law)
    (hg1 : h.get? T.tp_law = some { cls := .none, data := .fields #[] }) (hn1 : K.lookup T.tp_law = none) : LawAtG l w K CX0 40 63 "script" mg fa h := by
  subst hfa
  refine ⟨T.d_law, [(T.cc_law, T.tp_law)], spLaw T, ?_, ?_, ?_, ?_, ?_, ?_⟩
  · intro p hp
    rcases List.mem_cons.mp hp with rfl | hp
    · exact hg1
    · cases hp
  · intro p hp
    rcases List.mem_cons.mp hp with rfl | hp
    · exact hn1
    · cases hp
  · intro p hp
    rcases List.mem_cons.mp hp with rfl | hp
    · exact hc1
    · cases hp
  · intro s u
    obtain ⟨oc, od, kV, doc, pm, an, cdv, ct, osl, hfd, _, _⟩ := T.F_law.ex
    rw [hfd]
    exact BindsTo.of_eq (by rfl)
  · intro H a nums hl hb ht hs
    refine ⟨a, nums, rfl, hs, tabs_new fun p hp => ?_, fun H' => rfl⟩
    rcases List.mem_cons.mp hp with rfl | hp
    · exact ht _ (.head _)
    · cases hp
  · intro base hK hNs ht
    exact ok_law T (ht _ (.head _))

end NN

namespace NN
open PySem PySem.Spec PyProof.Rows L2 LamX AW ClX
theorem all_mk {K : PySem.W.Frag} {h : Heap} {mg : Str → Option Value} {l : PySem.W.OpenLaw} {w : World} {fa : Addr} (hfa : mg "law" = some (.ref fa)) (X : K.In h) (G : h.Ns mainGlobals mg)
    {f_is_whole : Addr}
    {oc_is_whole : Value}
    {kV_is_whole : Value}
    {dc_is_whole : Value}
    {pm_is_whole : Value}
    {cd_is_whole : Value}
    {ct_is_whole : Value}
    {od_is_whole : Option Addr}
    {an_is_whole : Option Addr}
    {sl_is_whole : Array (Option Value)}
    {f_is_from : Addr}
    {oc_is_from : Value}
    {kV_is_from : Value}
    {dc_is_from : Value}
    {pm_is_from : Value}
    {cd_is_from : Value}
    {ct_is_from : Value}
    {od_is_from : Option Addr}
    {an_is_from : Option Addr}
    {sl_is_from : Array (Option Value)}
    {f_is_day : Addr}
    {oc_is_day : Value}
    {kV_is_day : Value}
    {dc_is_day : Value}
    {pm_is_day : Value}
    {cd_is_day : Value}
    {ct_is_day : Value}
    {od_is_day : Option Addr}
    {an_is_day : Option Addr}
    {sl_is_day : Array (Option Value)}
    {c_StayError : Addr}
    {c_BadCalendar : Addr}
    {nm_BadCalendar : Str}
    {q_BadCalendar : Str}
    {N_BadCalendar : Addr}
    {bs_BadCalendar : List Value}
    {bm_BadCalendar : List Value}
    {sn_BadCalendar : List Str}
    {sub_BadCalendar : List Value}
    {ab_BadCalendar : Bool}
    {col_BadCalendar : Option Bool}
    {dd_BadCalendar : Option Addr}
    {m0_BadCalendar : Option Value}
    {m1_BadCalendar : Option Value}
    {m2_BadCalendar : Option Value}
    {m3_BadCalendar : Option Value}
    {m5_BadCalendar : Option Value}
    {f_BadCalendar___init__ : Addr}
    {oc_BadCalendar___init__ : Value}
    {kV_BadCalendar___init__ : Value}
    {dc_BadCalendar___init__ : Value}
    {pm_BadCalendar___init__ : Value}
    {cd_BadCalendar___init__ : Value}
    {ct_BadCalendar___init__ : Value}
    {od_BadCalendar___init__ : Option Addr}
    {an_BadCalendar___init__ : Option Addr}
    {sl_BadCalendar___init__ : Array (Option Value)}
    {c_Stay : Addr}
    {f_Stay___init__ : Addr}
    {oc_Stay___init__ : Value}
    {kV_Stay___init__ : Value}
    {dc_Stay___init__ : Value}
    {pm_Stay___init__ : Value}
    {cd_Stay___init__ : Value}
    {ct_Stay___init__ : Value}
    {od_Stay___init__ : Option Addr}
    {an_Stay___init__ : Option Addr}
    {sl_Stay___init__ : Array (Option Value)}
    {c_Calendar : Addr}
    {f_Calendar___init__ : Addr}
    {oc_Calendar___init__ : Value}
    {kV_Calendar___init__ : Value}
    {dc_Calendar___init__ : Value}
    {pm_Calendar___init__ : Value}
    {cd_Calendar___init__ : Value}
    {ct_Calendar___init__ : Value}
    {od_Calendar___init__ : Option Addr}
    {an_Calendar___init__ : Option Addr}
    {sl_Calendar___init__ : Array (Option Value)}
    {f_Calendar___contains__ : Addr}
    {oc_Calendar___contains__ : Value}
    {kV_Calendar___contains__ : Value}
    {dc_Calendar___contains__ : Value}
    {pm_Calendar___contains__ : Value}
    {cd_Calendar___contains__ : Value}
    {ct_Calendar___contains__ : Value}
    {od_Calendar___contains__ : Option Addr}
    {an_Calendar___contains__ : Option Addr}
    {sl_Calendar___contains__ : Array (Option Value)}
    {f_Calendar___len__ : Addr}
    {oc_Calendar___len__ : Value}
    {kV_Calendar___len__ : Value}
    {dc_Calendar___len__ : Value}
    {pm_Calendar___len__ : Value}
    {cd_Calendar___len__ : Value}
    {ct_Calendar___len__ : Value}
    {od_Calendar___len__ : Option Addr}
    {an_Calendar___len__ : Option Addr}
    {sl_Calendar___len__ : Array (Option Value)}
    {f_Calendar___iter__ : Addr}
    {oc_Calendar___iter__ : Value}
    {kV_Calendar___iter__ : Value}
    {dc_Calendar___iter__ : Value}
    {pm_Calendar___iter__ : Value}
    {cd_Calendar___iter__ : Value}
    {ct_Calendar___iter__ : Value}
    {od_Calendar___iter__ : Option Addr}
    {an_Calendar___iter__ : Option Addr}
    {sl_Calendar___iter__ : Array (Option Value)}
    {f_Calendar___eq__ : Addr}
    {oc_Calendar___eq__ : Value}
    {kV_Calendar___eq__ : Value}
    {dc_Calendar___eq__ : Value}
    {pm_Calendar___eq__ : Value}
    {cd_Calendar___eq__ : Value}
    {ct_Calendar___eq__ : Value}
    {od_Calendar___eq__ : Option Addr}
    {an_Calendar___eq__ : Option Addr}
    {sl_Calendar___eq__ : Array (Option Value)}
    {f_Calendar_guests : Addr}
    {oc_Calendar_guests : Value}
    {kV_Calendar_guests : Value}
    {dc_Calendar_guests : Value}
    {pm_Calendar_guests : Value}
    {cd_Calendar_guests : Value}
    {ct_Calendar_guests : Value}
    {od_Calendar_guests : Option Addr}
    {an_Calendar_guests : Option Addr}
    {sl_Calendar_guests : Array (Option Value)}
    {f_Calendar_supply : Addr}
    {oc_Calendar_supply : Value}
    {kV_Calendar_supply : Value}
    {dc_Calendar_supply : Value}
    {pm_Calendar_supply : Value}
    {cd_Calendar_supply : Value}
    {ct_Calendar_supply : Value}
    {od_Calendar_supply : Option Addr}
    {an_Calendar_supply : Option Addr}
    {sl_Calendar_supply : Array (Option Value)}
    {f_Calendar_room_plan : Addr}
    {oc_Calendar_room_plan : Value}
    {kV_Calendar_room_plan : Value}
    {dc_Calendar_room_plan : Value}
    {pm_Calendar_room_plan : Value}
    {cd_Calendar_room_plan : Value}
    {ct_Calendar_room_plan : Value}
    {od_Calendar_room_plan : Option Addr}
    {an_Calendar_room_plan : Option Addr}
    {sl_Calendar_room_plan : Array (Option Value)}
    {f_Calendar_with_rooms : Addr}
    {oc_Calendar_with_rooms : Value}
    {kV_Calendar_with_rooms : Value}
    {dc_Calendar_with_rooms : Value}
    {pm_Calendar_with_rooms : Value}
    {cd_Calendar_with_rooms : Value}
    {ct_Calendar_with_rooms : Value}
    {od_Calendar_with_rooms : Option Addr}
    {an_Calendar_with_rooms : Option Addr}
    {sl_Calendar_with_rooms : Array (Option Value)}
    {f_Calendar_twin : Addr}
    {oc_Calendar_twin : Value}
    {kV_Calendar_twin : Value}
    {dc_Calendar_twin : Value}
    {pm_Calendar_twin : Value}
    {cd_Calendar_twin : Value}
    {ct_Calendar_twin : Value}
    {od_Calendar_twin : Option Addr}
    {an_Calendar_twin : Option Addr}
    {sl_Calendar_twin : Array (Option Value)}
    {f_Calendar_names : Addr}
    {p_Calendar_names : Addr}
    {rest_Calendar_names : List Value}
    {oc_Calendar_names : Value}
    {kV_Calendar_names : Value}
    {dc_Calendar_names : Value}
    {pm_Calendar_names : Value}
    {cd_Calendar_names : Value}
    {ct_Calendar_names : Value}
    {od_Calendar_names : Option Addr}
    {an_Calendar_names : Option Addr}
    {sl_Calendar_names : Array (Option Value)}
    {f_Calendar_free_rooms : Addr}
    {p_Calendar_free_rooms : Addr}
    {rest_Calendar_free_rooms : List Value}
    {oc_Calendar_free_rooms : Value}
    {kV_Calendar_free_rooms : Value}
    {dc_Calendar_free_rooms : Value}
    {pm_Calendar_free_rooms : Value}
    {cd_Calendar_free_rooms : Value}
    {ct_Calendar_free_rooms : Value}
    {od_Calendar_free_rooms : Option Addr}
    {an_Calendar_free_rooms : Option Addr}
    {sl_Calendar_free_rooms : Array (Option Value)}
    {f_parts_of : Addr}
    {oc_parts_of : Value}
    {kV_parts_of : Value}
    {dc_parts_of : Value}
    {pm_parts_of : Value}
    {cd_parts_of : Value}
    {ct_parts_of : Value}
    {od_parts_of : Option Addr}
    {an_parts_of : Option Addr}
    {sl_parts_of : Array (Option Value)}
    {f_names_by_stays : Addr}
    {oc_names_by_stays : Value}
    {kV_names_by_stays : Value}
    {dc_names_by_stays : Value}
    {pm_names_by_stays : Value}
    {cd_names_by_stays : Value}
    {ct_names_by_stays : Value}
    {od_names_by_stays : Option Addr}
    {an_names_by_stays : Option Addr}
    {sl_names_by_stays : Array (Option Value)}
    {f__law_pen : Addr}
    {oc__law_pen : Value}
    {kV__law_pen : Value}
    {dc__law_pen : Value}
    {pm__law_pen : Value}
    {cd__law_pen : Value}
    {ct__law_pen : Value}
    {od__law_pen : Option Addr}
    {an__law_pen : Option Addr}
    {sl__law_pen : Array (Option Value)}
    {f__law_draw : Addr}
    {oc__law_draw : Value}
    {kV__law_draw : Value}
    {dc__law_draw : Value}
    {pm__law_draw : Value}
    {cd__law_draw : Value}
    {ct__law_draw : Value}
    {od__law_draw : Option Addr}
    {an__law_draw : Option Addr}
    {sl__law_draw : Array (Option Value)}
    {f__law_pick : Addr}
    {oc__law_pick : Value}
    {kV__law_pick : Value}
    {dc__law_pick : Value}
    {pm__law_pick : Value}
    {cd__law_pick : Value}
    {ct__law_pick : Value}
    {od__law_pick : Option Addr}
    {an__law_pick : Option Addr}
    {sl__law_pick : Array (Option Value)}
    {f__law_heard : Addr}
    {oc__law_heard : Value}
    {kV__law_heard : Value}
    {dc__law_heard : Value}
    {pm__law_heard : Value}
    {cd__law_heard : Value}
    {ct__law_heard : Value}
    {od__law_heard : Option Addr}
    {an__law_heard : Option Addr}
    {sl__law_heard : Array (Option Value)}
    {f__law_odd : Addr}
    {oc__law_odd : Value}
    {kV__law_odd : Value}
    {dc__law_odd : Value}
    {pm__law_odd : Value}
    {cd__law_odd : Value}
    {ct__law_odd : Value}
    {od__law_odd : Option Addr}
    {an__law_odd : Option Addr}
    {sl__law_odd : Array (Option Value)}
    {f__law_is_day : Addr}
    {oc__law_is_day : Value}
    {kV__law_is_day : Value}
    {dc__law_is_day : Value}
    {pm__law_is_day : Value}
    {cd__law_is_day : Value}
    {ct__law_is_day : Value}
    {od__law_is_day : Option Addr}
    {an__law_is_day : Option Addr}
    {sl__law_is_day : Array (Option Value)}
    {f__law_wrong : Addr}
    {oc__law_wrong : Value}
    {kV__law_wrong : Value}
    {dc__law_wrong : Value}
    {pm__law_wrong : Value}
    {cd__law_wrong : Value}
    {ct__law_wrong : Value}
    {od__law_wrong : Option Addr}
    {an__law_wrong : Option Addr}
    {sl__law_wrong : Array (Option Value)}
    {f__law_face_right : Addr}
    {oc__law_face_right : Value}
    {kV__law_face_right : Value}
    {dc__law_face_right : Value}
    {pm__law_face_right : Value}
    {cd__law_face_right : Value}
    {ct__law_face_right : Value}
    {od__law_face_right : Option Addr}
    {an__law_face_right : Option Addr}
    {sl__law_face_right : Array (Option Value)}
    {f__law_unlike_right : Addr}
    {oc__law_unlike_right : Value}
    {kV__law_unlike_right : Value}
    {dc__law_unlike_right : Value}
    {pm__law_unlike_right : Value}
    {cd__law_unlike_right : Value}
    {ct__law_unlike_right : Value}
    {od__law_unlike_right : Option Addr}
    {an__law_unlike_right : Option Addr}
    {sl__law_unlike_right : Array (Option Value)}
    {f_law : Addr}
    {oc_law : Value}
    {kV_law : Value}
    {dc_law : Value}
    {pm_law : Value}
    {ct_law : Value}
    {od_law : Option Addr}
    {an_law : Option Addr}
    {sl_law : Array (Option Value)}
    {cc_law : Addr}
    {tp_law : Addr}
    {cob_law : Obj}
    {t_LAST_DAY : Tok}
    {t_Calendar_ROOMS : Tok}
    {t_Calendar_NIGHTS : Tok}
    {t_Calendar_GUESTS : Tok}
    {t_Stay_MOST : Tok}
    (a_is_whole : PySem.W.nsIn K mainGlobals "is_whole" = some (some (.ref f_is_whole)))
    (l_is_whole : K.lookup f_is_whole = some ⟨oc_is_whole, od_is_whole, .func (PySem.W.fnOf "is_whole" "is_whole" (defArgs s_is_whole) (defBody s_is_whole) (defScope s_is_whole) .none kV_is_whole dc_is_whole pm_is_whole an_is_whole cd_is_whole ct_is_whole), sl_is_whole⟩)
    (c_is_whole_ : PySem.W.codeIn K cd_is_whole "is_whole" = true)
    (k_is_whole : PySem.W.keepIn K (.ref f_is_whole) = true)
    (a_is_from : PySem.W.nsIn K mainGlobals "is_from" = some (some (.ref f_is_from)))
    (l_is_from : K.lookup f_is_from = some ⟨oc_is_from, od_is_from, .func (PySem.W.fnOf "is_from" "is_from" (defArgs s_is_from) (defBody s_is_from) (defScope s_is_from) .none kV_is_from dc_is_from pm_is_from an_is_from cd_is_from ct_is_from), sl_is_from⟩)
    (c_is_from_ : PySem.W.codeIn K cd_is_from "is_from" = true)
    (k_is_from : PySem.W.keepIn K (.ref f_is_from) = true)
    (a_is_day : PySem.W.nsIn K mainGlobals "is_day" = some (some (.ref f_is_day)))
    (l_is_day : K.lookup f_is_day = some ⟨oc_is_day, od_is_day, .func (PySem.W.fnOf "is_day" "is_day" (defArgs s_is_day) (defBody s_is_day) (defScope s_is_day) .none kV_is_day dc_is_day pm_is_day an_is_day cd_is_day ct_is_day), sl_is_day⟩)
    (c_is_day_ : PySem.W.codeIn K cd_is_day "is_day" = true)
    (k_is_day : PySem.W.keepIn K (.ref f_is_day) = true)
    (a_StayError : PySem.W.nsIn K mainGlobals "StayError" = some (some (.ref c_StayError)))
    (a_BadCalendar : PySem.W.nsIn K mainGlobals "BadCalendar" = some (some (.ref c_BadCalendar)))
    (h_BadCalendar_l : K.lookup c_BadCalendar = some (excClassObj nm_BadCalendar q_BadCalendar c_BadCalendar N_BadCalendar bs_BadCalendar bm_BadCalendar true sn_BadCalendar sub_BadCalendar ab_BadCalendar col_BadCalendar dd_BadCalendar m0_BadCalendar m1_BadCalendar m2_BadCalendar m3_BadCalendar m5_BadCalendar "ValueError.__new__"))
    (h_BadCalendar_bm : PySem.HandSPX.refsVE bm_BadCalendar = true)
    (h_BadCalendar_sa : PySem.W.findIn K (.ref c_BadCalendar) "__setattr__" = some (some (.builtin "object.__setattr__")))
    (h_BadCalendar_ex : PySem.W.subIn K (.ref c_BadCalendar) (.type "BaseException") = some true)
    (h_BadCalendar_ty : PySem.W.typeIn K (.ref c_BadCalendar) = some (.type "type"))
    (h_BadCalendar_kp : PySem.W.keepIn K (.ref c_BadCalendar) = true)
    (h_BadCalendar_ga : PySem.W.findIn K (.ref c_BadCalendar) "__getattribute__" = some (some (.builtin "BaseException.__getattribute__")))
    (h_BadCalendar_gg : PySem.W.findIn K (.ref c_BadCalendar) "__getattr__" = some none)
    (h_BadCalendar_hd : PySem.W.hasDictIn K c_BadCalendar = true)
    (h_BadCalendar_cls : PySem.W.findIn K (.ref c_BadCalendar) "__class__" = some (some (.builtin "object.__class__")))
    (h_BadCalendar_mro : PySem.W.mroIn K c_BadCalendar (.type "object") = some true)
    (h_cget : PySem.W.specialIn K (.builtin "object.__class__") "__get__" = some (some (.builtin "getset_descriptor.__get__")))
    (h_ctak : PySem.W.takesIn K (.builtin "object.__class__") = some true)
    (h_nx_BadCalendar_part : PySem.W.findIn K (.ref c_BadCalendar) "part" = some none)
    (a_BadCalendar___init__ : PySem.W.findIn K (.ref c_BadCalendar) "__init__" = some (some (.ref f_BadCalendar___init__)))
    (i_BadCalendar___init__ : PySem.W.isFn K (.ref f_BadCalendar___init__) = true)
    (l_BadCalendar___init__ : K.lookup f_BadCalendar___init__ = some ⟨oc_BadCalendar___init__, od_BadCalendar___init__, .func (PySem.W.fnOf "__init__" "BadCalendar.__init__" (defArgs s_BadCalendar___init__) (defBody s_BadCalendar___init__) (defScope s_BadCalendar___init__) .none kV_BadCalendar___init__ dc_BadCalendar___init__ pm_BadCalendar___init__ an_BadCalendar___init__ cd_BadCalendar___init__ ct_BadCalendar___init__), sl_BadCalendar___init__⟩)
    (c_BadCalendar___init___ : PySem.W.codeIn K cd_BadCalendar___init__ "BadCalendar.__init__" = true)
    (k_BadCalendar___init__ : PySem.W.keepIn K (.ref f_BadCalendar___init__) = true)
    (t_BadCalendar___init__ : PySem.W.typeIn K (.ref f_BadCalendar___init__) = some (.type "function"))
    (a_Stay : PySem.W.nsIn K mainGlobals "Stay" = some (some (.ref c_Stay)))
    (h_Stay_pg : PySem.W.plainGet K c_Stay Str.empty = true)
    (h_Stay_hd : PySem.W.hasDictIn K c_Stay = true)
    (h_Stay_po : PySem.W.plainOver K c_Stay = true)
    (h_Stay_sa : PySem.W.findIn K (.ref c_Stay) "__setattr__" = some (some (.builtin "object.__setattr__")))
    (h_Stay_cls : PySem.W.findIn K (.ref c_Stay) "__class__" = some (some (.builtin "object.__class__")))
    (h_Stay_get : PySem.W.specialIn K (.builtin "object.__class__") "__get__" = some (some (.builtin "getset_descriptor.__get__")))
    (h_Stay_tak : PySem.W.takesIn K (.builtin "object.__class__") = some true)
    (h_Stay_mro : PySem.W.mroIn K c_Stay (.type "object") = some true)
    (h_na_Stay_first : PySem.W.findIn K (.ref c_Stay) "first" = some none)
    (h_na_Stay_after : PySem.W.findIn K (.ref c_Stay) "after" = some none)
    (h_na_Stay__nights : PySem.W.findIn K (.ref c_Stay) "_nights" = some none)
    (h_Stay_mk : PySem.W.makesIn K c_Stay = true)
    (h_Stay_kp : PySem.W.keepIn K (.ref c_Stay) = true)
    (a_Stay___init__ : PySem.W.findIn K (.ref c_Stay) "__init__" = some (some (.ref f_Stay___init__)))
    (i_Stay___init__ : PySem.W.isFn K (.ref f_Stay___init__) = true)
    (l_Stay___init__ : K.lookup f_Stay___init__ = some ⟨oc_Stay___init__, od_Stay___init__, .func (PySem.W.fnOf "__init__" "Stay.__init__" (defArgs s_Stay___init__) (defBody s_Stay___init__) (defScope s_Stay___init__) .none kV_Stay___init__ dc_Stay___init__ pm_Stay___init__ an_Stay___init__ cd_Stay___init__ ct_Stay___init__), sl_Stay___init__⟩)
    (c_Stay___init___ : PySem.W.codeIn K cd_Stay___init__ "Stay.__init__" = true)
    (k_Stay___init__ : PySem.W.keepIn K (.ref f_Stay___init__) = true)
    (a_Calendar : PySem.W.nsIn K mainGlobals "Calendar" = some (some (.ref c_Calendar)))
    (h_Calendar_pg : PySem.W.plainGet K c_Calendar Str.empty = true)
    (h_Calendar_hd : PySem.W.hasDictIn K c_Calendar = true)
    (h_Calendar_po : PySem.W.plainOver K c_Calendar = true)
    (h_Calendar_sa : PySem.W.findIn K (.ref c_Calendar) "__setattr__" = some (some (.builtin "object.__setattr__")))
    (h_Calendar_cls : PySem.W.findIn K (.ref c_Calendar) "__class__" = some (some (.builtin "object.__class__")))
    (h_Calendar_get : PySem.W.specialIn K (.builtin "object.__class__") "__get__" = some (some (.builtin "getset_descriptor.__get__")))
    (h_Calendar_tak : PySem.W.takesIn K (.builtin "object.__class__") = some true)
    (h_Calendar_mro : PySem.W.mroIn K c_Calendar (.type "object") = some true)
    (h_na_Calendar_rooms : PySem.W.findIn K (.ref c_Calendar) "rooms" = some none)
    (h_na_Calendar_first : PySem.W.findIn K (.ref c_Calendar) "first" = some none)
    (h_na_Calendar_after : PySem.W.findIn K (.ref c_Calendar) "after" = some none)
    (h_na_Calendar__stays : PySem.W.findIn K (.ref c_Calendar) "_stays" = some none)
    (h_Calendar_mk : PySem.W.makesIn K c_Calendar = true)
    (h_Calendar_kp : PySem.W.keepIn K (.ref c_Calendar) = true)
    (a_Calendar___init__ : PySem.W.findIn K (.ref c_Calendar) "__init__" = some (some (.ref f_Calendar___init__)))
    (i_Calendar___init__ : PySem.W.isFn K (.ref f_Calendar___init__) = true)
    (l_Calendar___init__ : K.lookup f_Calendar___init__ = some ⟨oc_Calendar___init__, od_Calendar___init__, .func (PySem.W.fnOf "__init__" "Calendar.__init__" (defArgs s_Calendar___init__) (defBody s_Calendar___init__) (defScope s_Calendar___init__) .none kV_Calendar___init__ dc_Calendar___init__ pm_Calendar___init__ an_Calendar___init__ cd_Calendar___init__ ct_Calendar___init__), sl_Calendar___init__⟩)
    (c_Calendar___init___ : PySem.W.codeIn K cd_Calendar___init__ "Calendar.__init__" = true)
    (k_Calendar___init__ : PySem.W.keepIn K (.ref f_Calendar___init__) = true)
    (a_Calendar___contains__ : PySem.W.findIn K (.ref c_Calendar) "__contains__" = some (some (.ref f_Calendar___contains__)))
    (i_Calendar___contains__ : PySem.W.isFn K (.ref f_Calendar___contains__) = true)
    (l_Calendar___contains__ : K.lookup f_Calendar___contains__ = some ⟨oc_Calendar___contains__, od_Calendar___contains__, .func (PySem.W.fnOf "__contains__" "Calendar.__contains__" (defArgs s_Calendar___contains__) (defBody s_Calendar___contains__) (defScope s_Calendar___contains__) .none kV_Calendar___contains__ dc_Calendar___contains__ pm_Calendar___contains__ an_Calendar___contains__ cd_Calendar___contains__ ct_Calendar___contains__), sl_Calendar___contains__⟩)
    (c_Calendar___contains___ : PySem.W.codeIn K cd_Calendar___contains__ "Calendar.__contains__" = true)
    (k_Calendar___contains__ : PySem.W.keepIn K (.ref f_Calendar___contains__) = true)
    (a_Calendar___len__ : PySem.W.findIn K (.ref c_Calendar) "__len__" = some (some (.ref f_Calendar___len__)))
    (i_Calendar___len__ : PySem.W.isFn K (.ref f_Calendar___len__) = true)
    (l_Calendar___len__ : K.lookup f_Calendar___len__ = some ⟨oc_Calendar___len__, od_Calendar___len__, .func (PySem.W.fnOf "__len__" "Calendar.__len__" (defArgs s_Calendar___len__) (defBody s_Calendar___len__) (defScope s_Calendar___len__) .none kV_Calendar___len__ dc_Calendar___len__ pm_Calendar___len__ an_Calendar___len__ cd_Calendar___len__ ct_Calendar___len__), sl_Calendar___len__⟩)
    (c_Calendar___len___ : PySem.W.codeIn K cd_Calendar___len__ "Calendar.__len__" = true)
    (k_Calendar___len__ : PySem.W.keepIn K (.ref f_Calendar___len__) = true)
    (a_Calendar___iter__ : PySem.W.findIn K (.ref c_Calendar) "__iter__" = some (some (.ref f_Calendar___iter__)))
    (i_Calendar___iter__ : PySem.W.isFn K (.ref f_Calendar___iter__) = true)
    (l_Calendar___iter__ : K.lookup f_Calendar___iter__ = some ⟨oc_Calendar___iter__, od_Calendar___iter__, .func (PySem.W.fnOf "__iter__" "Calendar.__iter__" (defArgs s_Calendar___iter__) (defBody s_Calendar___iter__) (defScope s_Calendar___iter__) .none kV_Calendar___iter__ dc_Calendar___iter__ pm_Calendar___iter__ an_Calendar___iter__ cd_Calendar___iter__ ct_Calendar___iter__), sl_Calendar___iter__⟩)
    (c_Calendar___iter___ : PySem.W.codeIn K cd_Calendar___iter__ "Calendar.__iter__" = true)
    (k_Calendar___iter__ : PySem.W.keepIn K (.ref f_Calendar___iter__) = true)
    (a_Calendar___eq__ : PySem.W.findIn K (.ref c_Calendar) "__eq__" = some (some (.ref f_Calendar___eq__)))
    (i_Calendar___eq__ : PySem.W.isFn K (.ref f_Calendar___eq__) = true)
    (l_Calendar___eq__ : K.lookup f_Calendar___eq__ = some ⟨oc_Calendar___eq__, od_Calendar___eq__, .func (PySem.W.fnOf "__eq__" "Calendar.__eq__" (defArgs s_Calendar___eq__) (defBody s_Calendar___eq__) (defScope s_Calendar___eq__) .none kV_Calendar___eq__ dc_Calendar___eq__ pm_Calendar___eq__ an_Calendar___eq__ cd_Calendar___eq__ ct_Calendar___eq__), sl_Calendar___eq__⟩)
    (c_Calendar___eq___ : PySem.W.codeIn K cd_Calendar___eq__ "Calendar.__eq__" = true)
    (k_Calendar___eq__ : PySem.W.keepIn K (.ref f_Calendar___eq__) = true)
    (a_Calendar_guests : PySem.W.findIn K (.ref c_Calendar) "guests" = some (some (.ref f_Calendar_guests)))
    (i_Calendar_guests : PySem.W.isFn K (.ref f_Calendar_guests) = true)
    (l_Calendar_guests : K.lookup f_Calendar_guests = some ⟨oc_Calendar_guests, od_Calendar_guests, .func (PySem.W.fnOf "guests" "Calendar.guests" (defArgs s_Calendar_guests) (defBody s_Calendar_guests) (defScope s_Calendar_guests) .none kV_Calendar_guests dc_Calendar_guests pm_Calendar_guests an_Calendar_guests cd_Calendar_guests ct_Calendar_guests), sl_Calendar_guests⟩)
    (c_Calendar_guests_ : PySem.W.codeIn K cd_Calendar_guests "Calendar.guests" = true)
    (k_Calendar_guests : PySem.W.keepIn K (.ref f_Calendar_guests) = true)
    (a_Calendar_supply : PySem.W.findIn K (.ref c_Calendar) "supply" = some (some (.ref f_Calendar_supply)))
    (i_Calendar_supply : PySem.W.isFn K (.ref f_Calendar_supply) = true)
    (l_Calendar_supply : K.lookup f_Calendar_supply = some ⟨oc_Calendar_supply, od_Calendar_supply, .func (PySem.W.fnOf "supply" "Calendar.supply" (defArgs s_Calendar_supply) (defBody s_Calendar_supply) (defScope s_Calendar_supply) .none kV_Calendar_supply dc_Calendar_supply pm_Calendar_supply an_Calendar_supply cd_Calendar_supply ct_Calendar_supply), sl_Calendar_supply⟩)
    (c_Calendar_supply_ : PySem.W.codeIn K cd_Calendar_supply "Calendar.supply" = true)
    (k_Calendar_supply : PySem.W.keepIn K (.ref f_Calendar_supply) = true)
    (a_Calendar_room_plan : PySem.W.findIn K (.ref c_Calendar) "room_plan" = some (some (.ref f_Calendar_room_plan)))
    (i_Calendar_room_plan : PySem.W.isFn K (.ref f_Calendar_room_plan) = true)
    (l_Calendar_room_plan : K.lookup f_Calendar_room_plan = some ⟨oc_Calendar_room_plan, od_Calendar_room_plan, .func (PySem.W.fnOf "room_plan" "Calendar.room_plan" (defArgs s_Calendar_room_plan) (defBody s_Calendar_room_plan) (defScope s_Calendar_room_plan) .none kV_Calendar_room_plan dc_Calendar_room_plan pm_Calendar_room_plan an_Calendar_room_plan cd_Calendar_room_plan ct_Calendar_room_plan), sl_Calendar_room_plan⟩)
    (c_Calendar_room_plan_ : PySem.W.codeIn K cd_Calendar_room_plan "Calendar.room_plan" = true)
    (k_Calendar_room_plan : PySem.W.keepIn K (.ref f_Calendar_room_plan) = true)
    (a_Calendar_with_rooms : PySem.W.findIn K (.ref c_Calendar) "with_rooms" = some (some (.ref f_Calendar_with_rooms)))
    (i_Calendar_with_rooms : PySem.W.isFn K (.ref f_Calendar_with_rooms) = true)
    (l_Calendar_with_rooms : K.lookup f_Calendar_with_rooms = some ⟨oc_Calendar_with_rooms, od_Calendar_with_rooms, .func (PySem.W.fnOf "with_rooms" "Calendar.with_rooms" (defArgs s_Calendar_with_rooms) (defBody s_Calendar_with_rooms) (defScope s_Calendar_with_rooms) .none kV_Calendar_with_rooms dc_Calendar_with_rooms pm_Calendar_with_rooms an_Calendar_with_rooms cd_Calendar_with_rooms ct_Calendar_with_rooms), sl_Calendar_with_rooms⟩)
    (c_Calendar_with_rooms_ : PySem.W.codeIn K cd_Calendar_with_rooms "Calendar.with_rooms" = true)
    (k_Calendar_with_rooms : PySem.W.keepIn K (.ref f_Calendar_with_rooms) = true)
    (a_Calendar_twin : PySem.W.findIn K (.ref c_Calendar) "twin" = some (some (.ref f_Calendar_twin)))
    (i_Calendar_twin : PySem.W.isFn K (.ref f_Calendar_twin) = true)
    (l_Calendar_twin : K.lookup f_Calendar_twin = some ⟨oc_Calendar_twin, od_Calendar_twin, .func (PySem.W.fnOf "twin" "Calendar.twin" (defArgs s_Calendar_twin) (defBody s_Calendar_twin) (defScope s_Calendar_twin) .none kV_Calendar_twin dc_Calendar_twin pm_Calendar_twin an_Calendar_twin cd_Calendar_twin ct_Calendar_twin), sl_Calendar_twin⟩)
    (c_Calendar_twin_ : PySem.W.codeIn K cd_Calendar_twin "Calendar.twin" = true)
    (k_Calendar_twin : PySem.W.keepIn K (.ref f_Calendar_twin) = true)
    (h_Calendar_ne : PySem.W.findIn K (.ref c_Calendar) "__ne__" = some (some (.builtin "object.__ne__")))
    (pa_Calendar_names : PySem.W.findIn K (.ref c_Calendar) "names" = some (some (.ref p_Calendar_names)))
    (pg_Calendar_names : PySem.W.specialIn K (.ref p_Calendar_names) "__get__" = some (some (.builtin "property.__get__")))
    (pt_Calendar_names : PySem.W.takesIn K (.ref p_Calendar_names) = some true)
    (pr_Calendar_names : PySem.W.recIn K p_Calendar_names "property" = some (.ref f_Calendar_names :: rest_Calendar_names))
    (l_Calendar_names : K.lookup f_Calendar_names = some ⟨oc_Calendar_names, od_Calendar_names, .func (PySem.W.fnOf "names" "Calendar.names" (defArgs s_Calendar_names) (defBody s_Calendar_names) (defScope s_Calendar_names) .none kV_Calendar_names dc_Calendar_names pm_Calendar_names an_Calendar_names cd_Calendar_names ct_Calendar_names), sl_Calendar_names⟩)
    (c_Calendar_names_ : PySem.W.codeIn K cd_Calendar_names "Calendar.names" = true)
    (k_Calendar_names : PySem.W.keepIn K (.ref f_Calendar_names) = true)
    (pa_Calendar_free_rooms : PySem.W.findIn K (.ref c_Calendar) "free_rooms" = some (some (.ref p_Calendar_free_rooms)))
    (pg_Calendar_free_rooms : PySem.W.specialIn K (.ref p_Calendar_free_rooms) "__get__" = some (some (.builtin "property.__get__")))
    (pt_Calendar_free_rooms : PySem.W.takesIn K (.ref p_Calendar_free_rooms) = some true)
    (pr_Calendar_free_rooms : PySem.W.recIn K p_Calendar_free_rooms "property" = some (.ref f_Calendar_free_rooms :: rest_Calendar_free_rooms))
    (l_Calendar_free_rooms : K.lookup f_Calendar_free_rooms = some ⟨oc_Calendar_free_rooms, od_Calendar_free_rooms, .func (PySem.W.fnOf "free_rooms" "Calendar.free_rooms" (defArgs s_Calendar_free_rooms) (defBody s_Calendar_free_rooms) (defScope s_Calendar_free_rooms) .none kV_Calendar_free_rooms dc_Calendar_free_rooms pm_Calendar_free_rooms an_Calendar_free_rooms cd_Calendar_free_rooms ct_Calendar_free_rooms), sl_Calendar_free_rooms⟩)
    (c_Calendar_free_rooms_ : PySem.W.codeIn K cd_Calendar_free_rooms "Calendar.free_rooms" = true)
    (k_Calendar_free_rooms : PySem.W.keepIn K (.ref f_Calendar_free_rooms) = true)
    (a_parts_of : PySem.W.nsIn K mainGlobals "parts_of" = some (some (.ref f_parts_of)))
    (l_parts_of : K.lookup f_parts_of = some ⟨oc_parts_of, od_parts_of, .func (PySem.W.fnOf "parts_of" "parts_of" (defArgs s_parts_of) (defBody s_parts_of) (defScope s_parts_of) .none kV_parts_of dc_parts_of pm_parts_of an_parts_of cd_parts_of ct_parts_of), sl_parts_of⟩)
    (c_parts_of_ : PySem.W.codeIn K cd_parts_of "parts_of" = true)
    (k_parts_of : PySem.W.keepIn K (.ref f_parts_of) = true)
    (a_names_by_stays : PySem.W.nsIn K mainGlobals "names_by_stays" = some (some (.ref f_names_by_stays)))
    (l_names_by_stays : K.lookup f_names_by_stays = some ⟨oc_names_by_stays, od_names_by_stays, .func (PySem.W.fnOf "names_by_stays" "names_by_stays" (defArgs s_names_by_stays) (defBody s_names_by_stays) (defScope s_names_by_stays) .none kV_names_by_stays dc_names_by_stays pm_names_by_stays an_names_by_stays cd_names_by_stays ct_names_by_stays), sl_names_by_stays⟩)
    (c_names_by_stays_ : PySem.W.codeIn K cd_names_by_stays "names_by_stays" = true)
    (k_names_by_stays : PySem.W.keepIn K (.ref f_names_by_stays) = true)
    (h_exm_BadCalendar : PySem.W.exmOne K (.ref c_BadCalendar) (.ref c_StayError) = some true)
    (h_kit_BC : PySem.W.kitOne K (.ref c_BadCalendar) (.ref c_BadCalendar) = some true)
    (h_kit_BC_V : PySem.W.kitOne K (.ref c_BadCalendar) (.type "ValueError") = some true)
    (h_sb_Calendar_NoneType : PySem.W.subIn K (.ref c_Calendar) (.type "NoneType") = some false)
    (h_kit_NoneType_Calendar : PySem.W.kitOne K (.type "NoneType") (.ref c_Calendar) = some false)
    (h_sb_Calendar_bool : PySem.W.subIn K (.ref c_Calendar) (.type "bool") = some false)
    (h_kit_bool_Calendar : PySem.W.kitOne K (.type "bool") (.ref c_Calendar) = some false)
    (h_sb_Calendar_int : PySem.W.subIn K (.ref c_Calendar) (.type "int") = some false)
    (h_kit_int_Calendar : PySem.W.kitOne K (.type "int") (.ref c_Calendar) = some false)
    (h_sb_Calendar_str : PySem.W.subIn K (.ref c_Calendar) (.type "str") = some false)
    (h_kit_str_Calendar : PySem.W.kitOne K (.type "str") (.ref c_Calendar) = some false)
    (h_sb_Calendar_tuple : PySem.W.subIn K (.ref c_Calendar) (.type "tuple") = some false)
    (h_kit_tuple_Calendar : PySem.W.kitOne K (.type "tuple") (.ref c_Calendar) = some false)
    (h_sb_Calendar_list : PySem.W.subIn K (.ref c_Calendar) (.type "list") = some false)
    (h_kit_list_Calendar : PySem.W.kitOne K (.type "list") (.ref c_Calendar) = some false)
    (h_sb_Calendar_dict : PySem.W.subIn K (.ref c_Calendar) (.type "dict") = some false)
    (h_kit_dict_Calendar : PySem.W.kitOne K (.type "dict") (.ref c_Calendar) = some false)
    (h_si_Calendar_NoneType : PySem.W.subIn K (.type "NoneType") (.ref c_Calendar) = some false)
    (h_si_Calendar_tuple : PySem.W.subIn K (.type "tuple") (.ref c_Calendar) = some false)
    (h_si_Calendar_list : PySem.W.subIn K (.type "list") (.ref c_Calendar) = some false)
    (h_kit_Calendar : PySem.W.kitOne K (.ref c_Calendar) (.ref c_Calendar) = some true)
    (h_kit_Stay : PySem.W.kitOne K (.ref c_Stay) (.ref c_Calendar) = some false)
    (h_kit_Stay_int : PySem.W.kitOne K (.ref c_Stay) (.type "int") = some false)
    (h_si_Stay : PySem.W.subIn K (.type "int") (.ref c_Stay) = some false)
    (h_si_Calendar : PySem.W.subIn K (.type "int") (.ref c_Calendar) = some false)
    (a__law_pen : PySem.W.nsIn K mainGlobals "_law_pen" = some (some (.ref f__law_pen)))
    (l__law_pen : K.lookup f__law_pen = some ⟨oc__law_pen, od__law_pen, .func (PySem.W.fnOf "_law_pen" "_law_pen" (defArgs s__law_pen) (defBody s__law_pen) (defScope s__law_pen) .none kV__law_pen dc__law_pen pm__law_pen an__law_pen cd__law_pen ct__law_pen), sl__law_pen⟩)
    (c__law_pen_ : PySem.W.codeIn K cd__law_pen "_law_pen" = true)
    (k__law_pen : PySem.W.keepIn K (.ref f__law_pen) = true)
    (a__law_draw : PySem.W.nsIn K mainGlobals "_law_draw" = some (some (.ref f__law_draw)))
    (l__law_draw : K.lookup f__law_draw = some ⟨oc__law_draw, od__law_draw, .func (PySem.W.fnOf "_law_draw" "_law_draw" (defArgs s__law_draw) (defBody s__law_draw) (defScope s__law_draw) .none kV__law_draw dc__law_draw pm__law_draw an__law_draw cd__law_draw ct__law_draw), sl__law_draw⟩)
    (c__law_draw_ : PySem.W.codeIn K cd__law_draw "_law_draw" = true)
    (k__law_draw : PySem.W.keepIn K (.ref f__law_draw) = true)
    (a__law_pick : PySem.W.nsIn K mainGlobals "_law_pick" = some (some (.ref f__law_pick)))
    (l__law_pick : K.lookup f__law_pick = some ⟨oc__law_pick, od__law_pick, .func (PySem.W.fnOf "_law_pick" "_law_pick" (defArgs s__law_pick) (defBody s__law_pick) (defScope s__law_pick) .none kV__law_pick dc__law_pick pm__law_pick an__law_pick cd__law_pick ct__law_pick), sl__law_pick⟩)
    (c__law_pick_ : PySem.W.codeIn K cd__law_pick "_law_pick" = true)
    (k__law_pick : PySem.W.keepIn K (.ref f__law_pick) = true)
    (a__law_heard : PySem.W.nsIn K mainGlobals "_law_heard" = some (some (.ref f__law_heard)))
    (l__law_heard : K.lookup f__law_heard = some ⟨oc__law_heard, od__law_heard, .func (PySem.W.fnOf "_law_heard" "_law_heard" (defArgs s__law_heard) (defBody s__law_heard) (defScope s__law_heard) .none kV__law_heard dc__law_heard pm__law_heard an__law_heard cd__law_heard ct__law_heard), sl__law_heard⟩)
    (c__law_heard_ : PySem.W.codeIn K cd__law_heard "_law_heard" = true)
    (k__law_heard : PySem.W.keepIn K (.ref f__law_heard) = true)
    (a__law_odd : PySem.W.nsIn K mainGlobals "_law_odd" = some (some (.ref f__law_odd)))
    (l__law_odd : K.lookup f__law_odd = some ⟨oc__law_odd, od__law_odd, .func (PySem.W.fnOf "_law_odd" "_law_odd" (defArgs s__law_odd) (defBody s__law_odd) (defScope s__law_odd) .none kV__law_odd dc__law_odd pm__law_odd an__law_odd cd__law_odd ct__law_odd), sl__law_odd⟩)
    (c__law_odd_ : PySem.W.codeIn K cd__law_odd "_law_odd" = true)
    (k__law_odd : PySem.W.keepIn K (.ref f__law_odd) = true)
    (a__law_is_day : PySem.W.nsIn K mainGlobals "_law_is_day" = some (some (.ref f__law_is_day)))
    (l__law_is_day : K.lookup f__law_is_day = some ⟨oc__law_is_day, od__law_is_day, .func (PySem.W.fnOf "_law_is_day" "_law_is_day" (defArgs s__law_is_day) (defBody s__law_is_day) (defScope s__law_is_day) .none kV__law_is_day dc__law_is_day pm__law_is_day an__law_is_day cd__law_is_day ct__law_is_day), sl__law_is_day⟩)
    (c__law_is_day_ : PySem.W.codeIn K cd__law_is_day "_law_is_day" = true)
    (k__law_is_day : PySem.W.keepIn K (.ref f__law_is_day) = true)
    (a__law_wrong : PySem.W.nsIn K mainGlobals "_law_wrong" = some (some (.ref f__law_wrong)))
    (l__law_wrong : K.lookup f__law_wrong = some ⟨oc__law_wrong, od__law_wrong, .func (PySem.W.fnOf "_law_wrong" "_law_wrong" (defArgs s__law_wrong) (defBody s__law_wrong) (defScope s__law_wrong) .none kV__law_wrong dc__law_wrong pm__law_wrong an__law_wrong cd__law_wrong ct__law_wrong), sl__law_wrong⟩)
    (c__law_wrong_ : PySem.W.codeIn K cd__law_wrong "_law_wrong" = true)
    (k__law_wrong : PySem.W.keepIn K (.ref f__law_wrong) = true)
    (a__law_face_right : PySem.W.nsIn K mainGlobals "_law_face_right" = some (some (.ref f__law_face_right)))
    (l__law_face_right : K.lookup f__law_face_right = some ⟨oc__law_face_right, od__law_face_right, .func (PySem.W.fnOf "_law_face_right" "_law_face_right" (defArgs s__law_face_right) (defBody s__law_face_right) (defScope s__law_face_right) .none kV__law_face_right dc__law_face_right pm__law_face_right an__law_face_right cd__law_face_right ct__law_face_right), sl__law_face_right⟩)
    (c__law_face_right_ : PySem.W.codeIn K cd__law_face_right "_law_face_right" = true)
    (k__law_face_right : PySem.W.keepIn K (.ref f__law_face_right) = true)
    (a__law_unlike_right : PySem.W.nsIn K mainGlobals "_law_unlike_right" = some (some (.ref f__law_unlike_right)))
    (l__law_unlike_right : K.lookup f__law_unlike_right = some ⟨oc__law_unlike_right, od__law_unlike_right, .func (PySem.W.fnOf "_law_unlike_right" "_law_unlike_right" (defArgs s__law_unlike_right) (defBody s__law_unlike_right) (defScope s__law_unlike_right) .none kV__law_unlike_right dc__law_unlike_right pm__law_unlike_right an__law_unlike_right cd__law_unlike_right ct__law_unlike_right), sl__law_unlike_right⟩)
    (c__law_unlike_right_ : PySem.W.codeIn K cd__law_unlike_right "_law_unlike_right" = true)
    (k__law_unlike_right : PySem.W.keepIn K (.ref f__law_unlike_right) = true)
    (a_law : PySem.W.nsIn K mainGlobals "law" = some (some (.ref f_law)))
    (l_law : K.lookup f_law = some ⟨oc_law, od_law, .func (PySem.W.fnOf "law" "law" (defArgs s_law) (defBody s_law) (defScope s_law) .none kV_law dc_law pm_law an_law (.ref cc_law) ct_law), sl_law⟩)
    (c_law_ : PySem.W.codeIn K (.ref cc_law) "law" = true)
    (k_law : PySem.W.keepIn K (.ref f_law) = true)
    (hc_law : K.lookup cc_law = some cob_law)
    (ht_law : codeTab cob_law = some tp_law)
    (hb_law : codeB cob_law cc_law tp_law = true)
    (hg_law : h.get? tp_law = some { cls := .none, data := .fields #[] })
    (hn_law : K.lookup tp_law = none)
    (z_isinstance : PySem.W.nsIn K mainGlobals "isinstance" = some none)
    (z_int : PySem.W.nsIn K mainGlobals "int" = some none)
    (z_bool : PySem.W.nsIn K mainGlobals "bool" = some none)
    (z_str : PySem.W.nsIn K mainGlobals "str" = some none)
    (z_len : PySem.W.nsIn K mainGlobals "len" = some none)
    (z_tuple : PySem.W.nsIn K mainGlobals "tuple" = some none)
    (z_range : PySem.W.nsIn K mainGlobals "range" = some none)
    (z_list : PySem.W.nsIn K mainGlobals "list" = some none)
    (z_dict : PySem.W.nsIn K mainGlobals "dict" = some none)
    (z_abs : PySem.W.nsIn K mainGlobals "abs" = some none)
    (z_iter : PySem.W.nsIn K mainGlobals "iter" = some none)
    (z_sorted : PySem.W.nsIn K mainGlobals "sorted" = some none)
    (z_enumerate : PySem.W.nsIn K mainGlobals "enumerate" = some none)
    (z_repr : PySem.W.nsIn K mainGlobals "repr" = some none)
    (z_ValueError : PySem.W.nsIn K mainGlobals "ValueError" = some none)
    (a_LAST_DAY : PySem.W.nsIn K mainGlobals "LAST_DAY" = some (some (.int 999999999999 t_LAST_DAY)))
    (h_Calendar_rd : PySem.W.readsIn K c_Calendar (.type "type") = true)
    (h_Calendar_tg : PySem.W.specialIn K (.ref c_Calendar) "__getattribute__" = some (some (.builtin "type.__getattribute__")))
    (h_Calendar_ROOMS : PySem.W.findCls K (.ref c_Calendar) (.type "type") "ROOMS" = some (.val (.int 12 t_Calendar_ROOMS)))
    (h_Calendar_NIGHTS : PySem.W.findCls K (.ref c_Calendar) (.type "type") "NIGHTS" = some (.val (.int 40 t_Calendar_NIGHTS)))
    (h_Calendar_GUESTS : PySem.W.findCls K (.ref c_Calendar) (.type "type") "GUESTS" = some (.val (.int 100 t_Calendar_GUESTS)))
    (h_Stay_rd : PySem.W.readsIn K c_Stay (.type "type") = true)
    (h_Stay_tg : PySem.W.specialIn K (.ref c_Stay) "__getattribute__" = some (some (.builtin "type.__getattribute__")))
    (h_Stay_MOST : PySem.W.findCls K (.ref c_Stay) (.type "type") "MOST" = some (.val (.int 400 t_Stay_MOST)))
    : LawAtG l w K CX0 40 63 "script" mg fa h := by
  have F_is_whole := fun_mk (st := s_is_whole) l_is_whole c_is_whole_ k_is_whole
  have F_is_from := fun_mk (st := s_is_from) l_is_from c_is_from_ k_is_from
  have F_is_day := fun_mk (st := s_is_day) l_is_day c_is_day_ k_is_day
  have F_BadCalendar___init__ := fun_mk (st := s_BadCalendar___init__) l_BadCalendar___init__ c_BadCalendar___init___ k_BadCalendar___init__
  have F_Stay___init__ := fun_mk (st := s_Stay___init__) l_Stay___init__ c_Stay___init___ k_Stay___init__
  have F_Calendar___init__ := fun_mk (st := s_Calendar___init__) l_Calendar___init__ c_Calendar___init___ k_Calendar___init__
  have F_Calendar___contains__ := fun_mk (st := s_Calendar___contains__) l_Calendar___contains__ c_Calendar___contains___ k_Calendar___contains__
  have F_Calendar___len__ := fun_mk (st := s_Calendar___len__) l_Calendar___len__ c_Calendar___len___ k_Calendar___len__
  have F_Calendar___iter__ := fun_mk (st := s_Calendar___iter__) l_Calendar___iter__ c_Calendar___iter___ k_Calendar___iter__
  have F_Calendar___eq__ := fun_mk (st := s_Calendar___eq__) l_Calendar___eq__ c_Calendar___eq___ k_Calendar___eq__
  have F_Calendar_guests := fun_mk (st := s_Calendar_guests) l_Calendar_guests c_Calendar_guests_ k_Calendar_guests
  have F_Calendar_supply := fun_mk (st := s_Calendar_supply) l_Calendar_supply c_Calendar_supply_ k_Calendar_supply
  have F_Calendar_room_plan := fun_mk (st := s_Calendar_room_plan) l_Calendar_room_plan c_Calendar_room_plan_ k_Calendar_room_plan
  have F_Calendar_with_rooms := fun_mk (st := s_Calendar_with_rooms) l_Calendar_with_rooms c_Calendar_with_rooms_ k_Calendar_with_rooms
  have F_Calendar_twin := fun_mk (st := s_Calendar_twin) l_Calendar_twin c_Calendar_twin_ k_Calendar_twin
  have F_Calendar_names := fun_mk (st := s_Calendar_names) l_Calendar_names c_Calendar_names_ k_Calendar_names
  have F_Calendar_free_rooms := fun_mk (st := s_Calendar_free_rooms) l_Calendar_free_rooms c_Calendar_free_rooms_ k_Calendar_free_rooms
  have F_parts_of := fun_mk (st := s_parts_of) l_parts_of c_parts_of_ k_parts_of
  have F_names_by_stays := fun_mk (st := s_names_by_stays) l_names_by_stays c_names_by_stays_ k_names_by_stays
  have F__law_pen := fun_mk (st := s__law_pen) l__law_pen c__law_pen_ k__law_pen
  have F__law_draw := fun_mk (st := s__law_draw) l__law_draw c__law_draw_ k__law_draw
  have F__law_pick := fun_mk (st := s__law_pick) l__law_pick c__law_pick_ k__law_pick
  have F__law_heard := fun_mk (st := s__law_heard) l__law_heard c__law_heard_ k__law_heard
  have F__law_odd := fun_mk (st := s__law_odd) l__law_odd c__law_odd_ k__law_odd
  have F__law_is_day := fun_mk (st := s__law_is_day) l__law_is_day c__law_is_day_ k__law_is_day
  have F__law_wrong := fun_mk (st := s__law_wrong) l__law_wrong c__law_wrong_ k__law_wrong
  have F__law_face_right := fun_mk (st := s__law_face_right) l__law_face_right c__law_face_right_ k__law_face_right
  have F__law_unlike_right := fun_mk (st := s__law_unlike_right) l__law_unlike_right c__law_unlike_right_ k__law_unlike_right
  have F_law := fun_mk (st := s_law) l_law c_law_ k_law
  have e0 := PySem.W.codeHd_of_K X (codeB_in hc_law hb_law)
  have ef : f_law = fa := Value.ref.inj (Option.some.inj ((PySem.W.mg_of X G a_law).symm.trans hfa))
  exact law_at (T := {
    f_is_whole := f_is_whole
    d_is_whole := PySem.W.fnOf "is_whole" "is_whole" (defArgs s_is_whole) (defBody s_is_whole) (defScope s_is_whole) .none kV_is_whole dc_is_whole pm_is_whole an_is_whole cd_is_whole ct_is_whole
    f_is_from := f_is_from
    d_is_from := PySem.W.fnOf "is_from" "is_from" (defArgs s_is_from) (defBody s_is_from) (defScope s_is_from) .none kV_is_from dc_is_from pm_is_from an_is_from cd_is_from ct_is_from
    f_is_day := f_is_day
    d_is_day := PySem.W.fnOf "is_day" "is_day" (defArgs s_is_day) (defBody s_is_day) (defScope s_is_day) .none kV_is_day dc_is_day pm_is_day an_is_day cd_is_day ct_is_day
    c_StayError := c_StayError
    c_BadCalendar := c_BadCalendar
    f_BadCalendar___init__ := f_BadCalendar___init__
    d_BadCalendar___init__ := PySem.W.fnOf "__init__" "BadCalendar.__init__" (defArgs s_BadCalendar___init__) (defBody s_BadCalendar___init__) (defScope s_BadCalendar___init__) .none kV_BadCalendar___init__ dc_BadCalendar___init__ pm_BadCalendar___init__ an_BadCalendar___init__ cd_BadCalendar___init__ ct_BadCalendar___init__
    c_Stay := c_Stay
    f_Stay___init__ := f_Stay___init__
    d_Stay___init__ := PySem.W.fnOf "__init__" "Stay.__init__" (defArgs s_Stay___init__) (defBody s_Stay___init__) (defScope s_Stay___init__) .none kV_Stay___init__ dc_Stay___init__ pm_Stay___init__ an_Stay___init__ cd_Stay___init__ ct_Stay___init__
    c_Calendar := c_Calendar
    f_Calendar___init__ := f_Calendar___init__
    d_Calendar___init__ := PySem.W.fnOf "__init__" "Calendar.__init__" (defArgs s_Calendar___init__) (defBody s_Calendar___init__) (defScope s_Calendar___init__) .none kV_Calendar___init__ dc_Calendar___init__ pm_Calendar___init__ an_Calendar___init__ cd_Calendar___init__ ct_Calendar___init__
    f_Calendar___contains__ := f_Calendar___contains__
    d_Calendar___contains__ := PySem.W.fnOf "__contains__" "Calendar.__contains__" (defArgs s_Calendar___contains__) (defBody s_Calendar___contains__) (defScope s_Calendar___contains__) .none kV_Calendar___contains__ dc_Calendar___contains__ pm_Calendar___contains__ an_Calendar___contains__ cd_Calendar___contains__ ct_Calendar___contains__
    f_Calendar___len__ := f_Calendar___len__
    d_Calendar___len__ := PySem.W.fnOf "__len__" "Calendar.__len__" (defArgs s_Calendar___len__) (defBody s_Calendar___len__) (defScope s_Calendar___len__) .none kV_Calendar___len__ dc_Calendar___len__ pm_Calendar___len__ an_Calendar___len__ cd_Calendar___len__ ct_Calendar___len__
    f_Calendar___iter__ := f_Calendar___iter__
    d_Calendar___iter__ := PySem.W.fnOf "__iter__" "Calendar.__iter__" (defArgs s_Calendar___iter__) (defBody s_Calendar___iter__) (defScope s_Calendar___iter__) .none kV_Calendar___iter__ dc_Calendar___iter__ pm_Calendar___iter__ an_Calendar___iter__ cd_Calendar___iter__ ct_Calendar___iter__
    f_Calendar___eq__ := f_Calendar___eq__
    d_Calendar___eq__ := PySem.W.fnOf "__eq__" "Calendar.__eq__" (defArgs s_Calendar___eq__) (defBody s_Calendar___eq__) (defScope s_Calendar___eq__) .none kV_Calendar___eq__ dc_Calendar___eq__ pm_Calendar___eq__ an_Calendar___eq__ cd_Calendar___eq__ ct_Calendar___eq__
    f_Calendar_guests := f_Calendar_guests
    d_Calendar_guests := PySem.W.fnOf "guests" "Calendar.guests" (defArgs s_Calendar_guests) (defBody s_Calendar_guests) (defScope s_Calendar_guests) .none kV_Calendar_guests dc_Calendar_guests pm_Calendar_guests an_Calendar_guests cd_Calendar_guests ct_Calendar_guests
    f_Calendar_supply := f_Calendar_supply
    d_Calendar_supply := PySem.W.fnOf "supply" "Calendar.supply" (defArgs s_Calendar_supply) (defBody s_Calendar_supply) (defScope s_Calendar_supply) .none kV_Calendar_supply dc_Calendar_supply pm_Calendar_supply an_Calendar_supply cd_Calendar_supply ct_Calendar_supply
    f_Calendar_room_plan := f_Calendar_room_plan
    d_Calendar_room_plan := PySem.W.fnOf "room_plan" "Calendar.room_plan" (defArgs s_Calendar_room_plan) (defBody s_Calendar_room_plan) (defScope s_Calendar_room_plan) .none kV_Calendar_room_plan dc_Calendar_room_plan pm_Calendar_room_plan an_Calendar_room_plan cd_Calendar_room_plan ct_Calendar_room_plan
    f_Calendar_with_rooms := f_Calendar_with_rooms
    d_Calendar_with_rooms := PySem.W.fnOf "with_rooms" "Calendar.with_rooms" (defArgs s_Calendar_with_rooms) (defBody s_Calendar_with_rooms) (defScope s_Calendar_with_rooms) .none kV_Calendar_with_rooms dc_Calendar_with_rooms pm_Calendar_with_rooms an_Calendar_with_rooms cd_Calendar_with_rooms ct_Calendar_with_rooms
    f_Calendar_twin := f_Calendar_twin
    d_Calendar_twin := PySem.W.fnOf "twin" "Calendar.twin" (defArgs s_Calendar_twin) (defBody s_Calendar_twin) (defScope s_Calendar_twin) .none kV_Calendar_twin dc_Calendar_twin pm_Calendar_twin an_Calendar_twin cd_Calendar_twin ct_Calendar_twin
    f_Calendar_names := f_Calendar_names
    p_Calendar_names := p_Calendar_names
    d_Calendar_names := PySem.W.fnOf "names" "Calendar.names" (defArgs s_Calendar_names) (defBody s_Calendar_names) (defScope s_Calendar_names) .none kV_Calendar_names dc_Calendar_names pm_Calendar_names an_Calendar_names cd_Calendar_names ct_Calendar_names
    f_Calendar_free_rooms := f_Calendar_free_rooms
    p_Calendar_free_rooms := p_Calendar_free_rooms
    d_Calendar_free_rooms := PySem.W.fnOf "free_rooms" "Calendar.free_rooms" (defArgs s_Calendar_free_rooms) (defBody s_Calendar_free_rooms) (defScope s_Calendar_free_rooms) .none kV_Calendar_free_rooms dc_Calendar_free_rooms pm_Calendar_free_rooms an_Calendar_free_rooms cd_Calendar_free_rooms ct_Calendar_free_rooms
    f_parts_of := f_parts_of
    d_parts_of := PySem.W.fnOf "parts_of" "parts_of" (defArgs s_parts_of) (defBody s_parts_of) (defScope s_parts_of) .none kV_parts_of dc_parts_of pm_parts_of an_parts_of cd_parts_of ct_parts_of
    f_names_by_stays := f_names_by_stays
    d_names_by_stays := PySem.W.fnOf "names_by_stays" "names_by_stays" (defArgs s_names_by_stays) (defBody s_names_by_stays) (defScope s_names_by_stays) .none kV_names_by_stays dc_names_by_stays pm_names_by_stays an_names_by_stays cd_names_by_stays ct_names_by_stays
    f__law_pen := f__law_pen
    d__law_pen := PySem.W.fnOf "_law_pen" "_law_pen" (defArgs s__law_pen) (defBody s__law_pen) (defScope s__law_pen) .none kV__law_pen dc__law_pen pm__law_pen an__law_pen cd__law_pen ct__law_pen
    f__law_draw := f__law_draw
    d__law_draw := PySem.W.fnOf "_law_draw" "_law_draw" (defArgs s__law_draw) (defBody s__law_draw) (defScope s__law_draw) .none kV__law_draw dc__law_draw pm__law_draw an__law_draw cd__law_draw ct__law_draw
    f__law_pick := f__law_pick
    d__law_pick := PySem.W.fnOf "_law_pick" "_law_pick" (defArgs s__law_pick) (defBody s__law_pick) (defScope s__law_pick) .none kV__law_pick dc__law_pick pm__law_pick an__law_pick cd__law_pick ct__law_pick
    f__law_heard := f__law_heard
    d__law_heard := PySem.W.fnOf "_law_heard" "_law_heard" (defArgs s__law_heard) (defBody s__law_heard) (defScope s__law_heard) .none kV__law_heard dc__law_heard pm__law_heard an__law_heard cd__law_heard ct__law_heard
    f__law_odd := f__law_odd
    d__law_odd := PySem.W.fnOf "_law_odd" "_law_odd" (defArgs s__law_odd) (defBody s__law_odd) (defScope s__law_odd) .none kV__law_odd dc__law_odd pm__law_odd an__law_odd cd__law_odd ct__law_odd
    f__law_is_day := f__law_is_day
    d__law_is_day := PySem.W.fnOf "_law_is_day" "_law_is_day" (defArgs s__law_is_day) (defBody s__law_is_day) (defScope s__law_is_day) .none kV__law_is_day dc__law_is_day pm__law_is_day an__law_is_day cd__law_is_day ct__law_is_day
    f__law_wrong := f__law_wrong
    d__law_wrong := PySem.W.fnOf "_law_wrong" "_law_wrong" (defArgs s__law_wrong) (defBody s__law_wrong) (defScope s__law_wrong) .none kV__law_wrong dc__law_wrong pm__law_wrong an__law_wrong cd__law_wrong ct__law_wrong
    f__law_face_right := f__law_face_right
    d__law_face_right := PySem.W.fnOf "_law_face_right" "_law_face_right" (defArgs s__law_face_right) (defBody s__law_face_right) (defScope s__law_face_right) .none kV__law_face_right dc__law_face_right pm__law_face_right an__law_face_right cd__law_face_right ct__law_face_right
    f__law_unlike_right := f__law_unlike_right
    d__law_unlike_right := PySem.W.fnOf "_law_unlike_right" "_law_unlike_right" (defArgs s__law_unlike_right) (defBody s__law_unlike_right) (defScope s__law_unlike_right) .none kV__law_unlike_right dc__law_unlike_right pm__law_unlike_right an__law_unlike_right cd__law_unlike_right ct__law_unlike_right
    f_law := f_law
    d_law := PySem.W.fnOf "law" "law" (defArgs s_law) (defBody s_law) (defScope s_law) .none kV_law dc_law pm_law an_law (.ref cc_law) ct_law
    cc_law := cc_law
    tp_law := tp_law
    g_is_whole := PySem.W.mg_of X G a_is_whole
    F_is_whole := F_is_whole
    bd_is_whole := F_is_whole.binds (ps := ["value"]) fun _ _ _ _ _ _ us hl => match us, hl with | [_], _ => rfl
    g_is_from := PySem.W.mg_of X G a_is_from
    F_is_from := F_is_from
    bd_is_from := F_is_from.binds (ps := ["value", "least", "most"]) fun _ _ _ _ _ _ us hl => match us, hl with | [_, _, _], _ => rfl
    g_is_day := PySem.W.mg_of X G a_is_day
    F_is_day := F_is_day
    bd_is_day := F_is_day.binds (ps := ["value"]) fun _ _ _ _ _ _ us hl => match us, hl with | [_], _ => rfl
    g_StayError := PySem.W.mg_of X G a_StayError
    g_BadCalendar := PySem.W.mg_of X G a_BadCalendar
    x_BadCalendar := ⟨⟨nm_BadCalendar, q_BadCalendar, N_BadCalendar, bs_BadCalendar, bm_BadCalendar, sn_BadCalendar, sub_BadCalendar, ab_BadCalendar, col_BadCalendar, dd_BadCalendar, m0_BadCalendar, m1_BadCalendar, m2_BadCalendar, m3_BadCalendar, m5_BadCalendar, h_BadCalendar_l, h_BadCalendar_bm⟩, h_BadCalendar_sa, h_BadCalendar_ex, h_BadCalendar_ty, h_BadCalendar_kp⟩
    xf_BadCalendar := ⟨h_BadCalendar_ga, h_BadCalendar_gg, h_BadCalendar_ex, h_BadCalendar_hd⟩
    xc_BadCalendar := ⟨h_BadCalendar_ga, h_BadCalendar_gg, h_BadCalendar_ex, h_BadCalendar_hd, h_BadCalendar_cls, h_cget, h_ctak, h_BadCalendar_mro⟩
    nx_BadCalendar_part := h_nx_BadCalendar_part
    fi_BadCalendar___init__ := a_BadCalendar___init__
    isf_BadCalendar___init__ := i_BadCalendar___init__
    F_BadCalendar___init__ := F_BadCalendar___init__
    bd_BadCalendar___init__ := F_BadCalendar___init__.binds (ps := ["self", "part"]) fun _ _ _ _ _ _ us hl => match us, hl with | [_, _], _ => rfl
    ti_BadCalendar := t_BadCalendar___init__
    g_Stay := PySem.W.mg_of X G a_Stay
    cl_Stay := ⟨h_Stay_pg, h_Stay_hd, h_Stay_po, h_Stay_sa⟩
    own_Stay := ⟨⟨h_Stay_pg, h_Stay_hd, h_Stay_po, h_Stay_sa⟩, h_Stay_cls, h_Stay_get, h_Stay_tak, h_Stay_mro⟩
    na_Stay_first := h_na_Stay_first
    na_Stay_after := h_na_Stay_after
    na_Stay__nights := h_na_Stay__nights
    fi_Stay___init__ := a_Stay___init__
    isf_Stay___init__ := i_Stay___init__
    F_Stay___init__ := F_Stay___init__
    bd_Stay___init__ := F_Stay___init__.binds (ps := ["self", "first", "after"]) fun _ _ _ _ _ _ us hl => match us, hl with | [_, _, _], _ => rfl
    g_Calendar := PySem.W.mg_of X G a_Calendar
    cl_Calendar := ⟨h_Calendar_pg, h_Calendar_hd, h_Calendar_po, h_Calendar_sa⟩
    own_Calendar := ⟨⟨h_Calendar_pg, h_Calendar_hd, h_Calendar_po, h_Calendar_sa⟩, h_Calendar_cls, h_Calendar_get, h_Calendar_tak, h_Calendar_mro⟩
    na_Calendar_rooms := h_na_Calendar_rooms
    na_Calendar_first := h_na_Calendar_first
    na_Calendar_after := h_na_Calendar_after
    na_Calendar__stays := h_na_Calendar__stays
    fi_Calendar___init__ := a_Calendar___init__
    isf_Calendar___init__ := i_Calendar___init__
    F_Calendar___init__ := F_Calendar___init__
    bd_Calendar___init__ := F_Calendar___init__.binds (ps := ["self", "rooms", "first", "after"]) fun _ _ _ _ _ _ us hl => match us, hl with | [_, _, _, _], _ => rfl
    fi_Calendar___contains__ := a_Calendar___contains__
    isf_Calendar___contains__ := i_Calendar___contains__
    F_Calendar___contains__ := F_Calendar___contains__
    bd_Calendar___contains__ := F_Calendar___contains__.binds (ps := ["self", "x"]) fun _ _ _ _ _ _ us hl => match us, hl with | [_, _], _ => rfl
    fi_Calendar___len__ := a_Calendar___len__
    isf_Calendar___len__ := i_Calendar___len__
    F_Calendar___len__ := F_Calendar___len__
    bd_Calendar___len__ := F_Calendar___len__.binds (ps := ["self"]) fun _ _ _ _ _ _ us hl => match us, hl with | [_], _ => rfl
    fi_Calendar___iter__ := a_Calendar___iter__
    isf_Calendar___iter__ := i_Calendar___iter__
    F_Calendar___iter__ := F_Calendar___iter__
    bd_Calendar___iter__ := F_Calendar___iter__.binds (ps := ["self"]) fun _ _ _ _ _ _ us hl => match us, hl with | [_], _ => rfl
    fi_Calendar___eq__ := a_Calendar___eq__
    isf_Calendar___eq__ := i_Calendar___eq__
    F_Calendar___eq__ := F_Calendar___eq__
    bd_Calendar___eq__ := F_Calendar___eq__.binds (ps := ["self", "other"]) fun _ _ _ _ _ _ us hl => match us, hl with | [_, _], _ => rfl
    fi_Calendar_guests := a_Calendar_guests
    isf_Calendar_guests := i_Calendar_guests
    F_Calendar_guests := F_Calendar_guests
    bd_Calendar_guests := F_Calendar_guests.binds (ps := ["self"]) fun _ _ _ _ _ _ us hl => match us, hl with | [_], _ => rfl
    fi_Calendar_supply := a_Calendar_supply
    isf_Calendar_supply := i_Calendar_supply
    F_Calendar_supply := F_Calendar_supply
    bd_Calendar_supply := F_Calendar_supply.binds (ps := ["self", "day"]) fun _ _ _ _ _ _ us hl => match us, hl with | [_, _], _ => rfl
    fi_Calendar_room_plan := a_Calendar_room_plan
    isf_Calendar_room_plan := i_Calendar_room_plan
    F_Calendar_room_plan := F_Calendar_room_plan
    bd_Calendar_room_plan := F_Calendar_room_plan.binds (ps := ["self"]) fun _ _ _ _ _ _ us hl => match us, hl with | [_], _ => rfl
    fi_Calendar_with_rooms := a_Calendar_with_rooms
    isf_Calendar_with_rooms := i_Calendar_with_rooms
    F_Calendar_with_rooms := F_Calendar_with_rooms
    bd_Calendar_with_rooms := F_Calendar_with_rooms.binds (ps := ["self", "rooms"]) fun _ _ _ _ _ _ us hl => match us, hl with | [_, _], _ => rfl
    fi_Calendar_twin := a_Calendar_twin
    isf_Calendar_twin := i_Calendar_twin
    F_Calendar_twin := F_Calendar_twin
    bd_Calendar_twin := F_Calendar_twin.binds (ps := ["self"]) fun _ _ _ _ _ _ us hl => match us, hl with | [_], _ => rfl
    F_Calendar_names := F_Calendar_names
    bd_Calendar_names := F_Calendar_names.binds (ps := ["self"]) fun _ _ _ _ _ _ us hl => match us, hl with | [_], _ => rfl
    pp_Calendar_names := ⟨pa_Calendar_names, pg_Calendar_names, pt_Calendar_names, ⟨_, pr_Calendar_names⟩⟩
    F_Calendar_free_rooms := F_Calendar_free_rooms
    bd_Calendar_free_rooms := F_Calendar_free_rooms.binds (ps := ["self"]) fun _ _ _ _ _ _ us hl => match us, hl with | [_], _ => rfl
    pp_Calendar_free_rooms := ⟨pa_Calendar_free_rooms, pg_Calendar_free_rooms, pt_Calendar_free_rooms, ⟨_, pr_Calendar_free_rooms⟩⟩
    g_parts_of := PySem.W.mg_of X G a_parts_of
    F_parts_of := F_parts_of
    bd_parts_of := F_parts_of.binds (ps := ["calendar"]) fun _ _ _ _ _ _ us hl => match us, hl with | [_], _ => rfl
    g_names_by_stays := PySem.W.mg_of X G a_names_by_stays
    F_names_by_stays := F_names_by_stays
    bd_names_by_stays := F_names_by_stays.binds (ps := ["calendar"]) fun _ _ _ _ _ _ us hl => match us, hl with | [_], _ => rfl
    exm_BadCalendar := h_exm_BadCalendar
    kit_BC := h_kit_BC
    kit_BC_V := h_kit_BC_V
    sb_Calendar_NoneType := h_sb_Calendar_NoneType
    kit_NoneType_Calendar := h_kit_NoneType_Calendar
    sb_Calendar_bool := h_sb_Calendar_bool
    kit_bool_Calendar := h_kit_bool_Calendar
    sb_Calendar_int := h_sb_Calendar_int
    kit_int_Calendar := h_kit_int_Calendar
    sb_Calendar_str := h_sb_Calendar_str
    kit_str_Calendar := h_kit_str_Calendar
    sb_Calendar_tuple := h_sb_Calendar_tuple
    kit_tuple_Calendar := h_kit_tuple_Calendar
    sb_Calendar_list := h_sb_Calendar_list
    kit_list_Calendar := h_kit_list_Calendar
    sb_Calendar_dict := h_sb_Calendar_dict
    kit_dict_Calendar := h_kit_dict_Calendar
    si_Calendar_NoneType := h_si_Calendar_NoneType
    si_Calendar_tuple := h_si_Calendar_tuple
    si_Calendar_list := h_si_Calendar_list
    kit_Calendar := h_kit_Calendar
    kit_Stay := h_kit_Stay
    kit_Stay_int := h_kit_Stay_int
    si_Stay := h_si_Stay
    si_Calendar := h_si_Calendar
    g__law_pen := PySem.W.mg_of X G a__law_pen
    F__law_pen := F__law_pen
    bd__law_pen := F__law_pen.binds (ps := ["script"]) fun _ _ _ _ _ _ us hl => match us, hl with | [_], _ => rfl
    g__law_draw := PySem.W.mg_of X G a__law_draw
    F__law_draw := F__law_draw
    bd__law_draw := F__law_draw.binds (ps := ["pen", "many"]) fun _ _ _ _ _ _ us hl => match us, hl with | [_, _], _ => rfl
    g__law_pick := PySem.W.mg_of X G a__law_pick
    F__law_pick := F__law_pick
    bd__law_pick := F__law_pick.binds (ps := ["pen", "some"]) fun _ _ _ _ _ _ us hl => match us, hl with | [_, _], _ => rfl
    g__law_heard := PySem.W.mg_of X G a__law_heard
    F__law_heard := F__law_heard
    bd__law_heard := F__law_heard.binds (ps := ["ask"]) fun _ _ _ _ _ _ us hl => match us, hl with | [_], _ => rfl
    g__law_odd := PySem.W.mg_of X G a__law_odd
    F__law_odd := F__law_odd
    bd__law_odd := F__law_odd.binds (ps := ["pen"]) fun _ _ _ _ _ _ us hl => match us, hl with | [_], _ => rfl
    g__law_is_day := PySem.W.mg_of X G a__law_is_day
    F__law_is_day := F__law_is_day
    bd__law_is_day := F__law_is_day.binds (ps := ["value"]) fun _ _ _ _ _ _ us hl => match us, hl with | [_], _ => rfl
    g__law_wrong := PySem.W.mg_of X G a__law_wrong
    F__law_wrong := F__law_wrong
    bd__law_wrong := F__law_wrong.binds (ps := ["number", "start", "goal"]) fun _ _ _ _ _ _ us hl => match us, hl with | [_, _, _], _ => rfl
    g__law_face_right := PySem.W.mg_of X G a__law_face_right
    F__law_face_right := F__law_face_right
    bd__law_face_right := F__law_face_right.binds (ps := ["made", "number", "start", "goal"]) fun _ _ _ _ _ _ us hl => match us, hl with | [_, _, _, _], _ => rfl
    g__law_unlike_right := PySem.W.mg_of X G a__law_unlike_right
    F__law_unlike_right := F__law_unlike_right
    bd__law_unlike_right := F__law_unlike_right.binds (ps := ["made", "number", "start", "goal"]) fun _ _ _ _ _ _ us hl => match us, hl with | [_, _, _, _], _ => rfl
    g_law := PySem.W.mg_of X G a_law
    F_law := F_law
    bd_law := F_law.binds (ps := ["script"]) fun _ _ _ _ _ _ us hl => match us, hl with | [_], _ => rfl
    code_law := rfl
    b_isinstance := PySem.W.mg_none_of X G z_isinstance
    b_int := PySem.W.mg_none_of X G z_int
    b_bool := PySem.W.mg_none_of X G z_bool
    b_str := PySem.W.mg_none_of X G z_str
    b_len := PySem.W.mg_none_of X G z_len
    b_tuple := PySem.W.mg_none_of X G z_tuple
    b_range := PySem.W.mg_none_of X G z_range
    b_list := PySem.W.mg_none_of X G z_list
    b_dict := PySem.W.mg_none_of X G z_dict
    b_abs := PySem.W.mg_none_of X G z_abs
    b_iter := PySem.W.mg_none_of X G z_iter
    b_sorted := PySem.W.mg_none_of X G z_sorted
    b_enumerate := PySem.W.mg_none_of X G z_enumerate
    b_repr := PySem.W.mg_none_of X G z_repr
    b_ValueError := PySem.W.mg_none_of X G z_ValueError
    g_LAST_DAY := ⟨_, PySem.W.mg_of X G a_LAST_DAY⟩
    cr_Calendar := ⟨h_Calendar_rd, h_Calendar_tg⟩
    cv_Calendar_ROOMS := ⟨_, h_Calendar_ROOMS, ⟨_, rfl⟩⟩
    cv_Calendar_NIGHTS := ⟨_, h_Calendar_NIGHTS, ⟨_, rfl⟩⟩
    cv_Calendar_GUESTS := ⟨_, h_Calendar_GUESTS, ⟨_, rfl⟩⟩
    cr_Stay := ⟨h_Stay_rd, h_Stay_tg⟩
    cv_Stay_MOST := ⟨_, h_Stay_MOST, ⟨_, rfl⟩⟩
    mk_Stay := ⟨h_Stay_mk, a_Stay___init__, i_Stay___init__, h_Stay_kp⟩
    mk_Calendar := ⟨h_Calendar_mk, a_Calendar___init__, i_Calendar___init__, h_Calendar_kp⟩
    me_Calendar_guests := ⟨a_Calendar_guests, i_Calendar_guests, k_Calendar_guests⟩
    me_Calendar_supply := ⟨a_Calendar_supply, i_Calendar_supply, k_Calendar_supply⟩
    me_Calendar_room_plan := ⟨a_Calendar_room_plan, i_Calendar_room_plan, k_Calendar_room_plan⟩
    me_Calendar_with_rooms := ⟨a_Calendar_with_rooms, i_Calendar_with_rooms, k_Calendar_with_rooms⟩
    me_Calendar_twin := ⟨a_Calendar_twin, i_Calendar_twin, k_Calendar_twin⟩
    eq_Calendar := ⟨a_Calendar___eq__, i_Calendar___eq__, h_Calendar_ne, h_Calendar_mro⟩
    sm_Calendar___contains__ := ⟨a_Calendar___contains__, i_Calendar___contains__⟩
    sm_Calendar___len__ := ⟨a_Calendar___len__, i_Calendar___len__⟩
    sm_Calendar___iter__ := ⟨a_Calendar___iter__, i_Calendar___iter__⟩ }) ef e0 hg_law hn_law
end NN

open PySem PySem.W PyProof.Rows in
set_option maxHeartbeats 0 in
theorem PySem.Challenge.cw_nodeadnight_k41_calendars_made_holds : PySem.Challenge.rw_nodeadnight_k41_calendars_made.Holds := by
  w_on; o_law; k_head; (case hw => w_witness2)
  k_fill
  refine LamX.walk_ofG (l := PySem.Challenge.rw_nodeadnight_k41_calendars_made) (n := 63) (k := 40) (CX := fun _ => L2.CX0) (x := "script") rfl (by decide) rfl ⟨rfl, by decide, by decide⟩ (fun w h Y => by first | exact PySem.W.km_in_of Y | exact PySem.W.kIn_of Y) ?F ?hCX
  case hCX => exact fun _ _ _ _ _ z => z
  case F =>
    intro w mg fa h Y KX G hmg
    refine' NN.all_mk (hfa := hmg) KX G ?a_is_whole ?l_is_whole ?c_is_whole_ ?k_is_whole ?a_is_from ?l_is_from ?c_is_from_ ?k_is_from ?a_is_day ?l_is_day ?c_is_day_ ?k_is_day ?a_StayError ?a_BadCalendar ?h_BadCalendar_l ?h_BadCalendar_bm ?h_BadCalendar_sa ?h_BadCalendar_ex ?h_BadCalendar_ty ?h_BadCalendar_kp ?h_BadCalendar_ga ?h_BadCalendar_gg ?h_BadCalendar_hd ?h_BadCalendar_cls ?h_BadCalendar_mro ?h_cget ?h_ctak ?h_nx_BadCalendar_part ?a_BadCalendar___init__ ?i_BadCalendar___init__ ?l_BadCalendar___init__ ?c_BadCalendar___init___ ?k_BadCalendar___init__ ?t_BadCalendar___init__ ?a_Stay ?h_Stay_pg ?h_Stay_hd ?h_Stay_po ?h_Stay_sa ?h_Stay_cls ?h_Stay_get ?h_Stay_tak ?h_Stay_mro ?h_na_Stay_first ?h_na_Stay_after ?h_na_Stay__nights ?h_Stay_mk ?h_Stay_kp ?a_Stay___init__ ?i_Stay___init__ ?l_Stay___init__ ?c_Stay___init___ ?k_Stay___init__ ?a_Calendar ?h_Calendar_pg ?h_Calendar_hd ?h_Calendar_po ?h_Calendar_sa ?h_Calendar_cls ?h_Calendar_get ?h_Calendar_tak ?h_Calendar_mro ?h_na_Calendar_rooms ?h_na_Calendar_first ?h_na_Calendar_after ?h_na_Calendar__stays ?h_Calendar_mk ?h_Calendar_kp ?a_Calendar___init__ ?i_Calendar___init__ ?l_Calendar___init__ ?c_Calendar___init___ ?k_Calendar___init__ ?a_Calendar___contains__ ?i_Calendar___contains__ ?l_Calendar___contains__ ?c_Calendar___contains___ ?k_Calendar___contains__ ?a_Calendar___len__ ?i_Calendar___len__ ?l_Calendar___len__ ?c_Calendar___len___ ?k_Calendar___len__ ?a_Calendar___iter__ ?i_Calendar___iter__ ?l_Calendar___iter__ ?c_Calendar___iter___ ?k_Calendar___iter__ ?a_Calendar___eq__ ?i_Calendar___eq__ ?l_Calendar___eq__ ?c_Calendar___eq___ ?k_Calendar___eq__ ?a_Calendar_guests ?i_Calendar_guests ?l_Calendar_guests ?c_Calendar_guests_ ?k_Calendar_guests ?a_Calendar_supply ?i_Calendar_supply ?l_Calendar_supply ?c_Calendar_supply_ ?k_Calendar_supply ?a_Calendar_room_plan ?i_Calendar_room_plan ?l_Calendar_room_plan ?c_Calendar_room_plan_ ?k_Calendar_room_plan ?a_Calendar_with_rooms ?i_Calendar_with_rooms ?l_Calendar_with_rooms ?c_Calendar_with_rooms_ ?k_Calendar_with_rooms ?a_Calendar_twin ?i_Calendar_twin ?l_Calendar_twin ?c_Calendar_twin_ ?k_Calendar_twin ?h_Calendar_ne ?pa_Calendar_names ?pg_Calendar_names ?pt_Calendar_names ?pr_Calendar_names ?l_Calendar_names ?c_Calendar_names_ ?k_Calendar_names ?pa_Calendar_free_rooms ?pg_Calendar_free_rooms ?pt_Calendar_free_rooms ?pr_Calendar_free_rooms ?l_Calendar_free_rooms ?c_Calendar_free_rooms_ ?k_Calendar_free_rooms ?a_parts_of ?l_parts_of ?c_parts_of_ ?k_parts_of ?a_names_by_stays ?l_names_by_stays ?c_names_by_stays_ ?k_names_by_stays ?h_exm_BadCalendar ?h_kit_BC ?h_kit_BC_V ?h_sb_Calendar_NoneType ?h_kit_NoneType_Calendar ?h_sb_Calendar_bool ?h_kit_bool_Calendar ?h_sb_Calendar_int ?h_kit_int_Calendar ?h_sb_Calendar_str ?h_kit_str_Calendar ?h_sb_Calendar_tuple ?h_kit_tuple_Calendar ?h_sb_Calendar_list ?h_kit_list_Calendar ?h_sb_Calendar_dict ?h_kit_dict_Calendar ?h_si_Calendar_NoneType ?h_si_Calendar_tuple ?h_si_Calendar_list ?h_kit_Calendar ?h_kit_Stay ?h_kit_Stay_int ?h_si_Stay ?h_si_Calendar ?a__law_pen ?l__law_pen ?c__law_pen_ ?k__law_pen ?a__law_draw ?l__law_draw ?c__law_draw_ ?k__law_draw ?a__law_pick ?l__law_pick ?c__law_pick_ ?k__law_pick ?a__law_heard ?l__law_heard ?c__law_heard_ ?k__law_heard ?a__law_odd ?l__law_odd ?c__law_odd_ ?k__law_odd ?a__law_is_day ?l__law_is_day ?c__law_is_day_ ?k__law_is_day ?a__law_wrong ?l__law_wrong ?c__law_wrong_ ?k__law_wrong ?a__law_face_right ?l__law_face_right ?c__law_face_right_ ?k__law_face_right ?a__law_unlike_right ?l__law_unlike_right ?c__law_unlike_right_ ?k__law_unlike_right ?a_law ?l_law ?c_law_ ?k_law ?hc_law ?ht_law ?hb_law ?hg_law ?hn_law ?z_isinstance ?z_int ?z_bool ?z_str ?z_len ?z_tuple ?z_range ?z_list ?z_dict ?z_abs ?z_iter ?z_sorted ?z_enumerate ?z_repr ?z_ValueError ?a_LAST_DAY ?h_Calendar_rd ?h_Calendar_tg ?h_Calendar_ROOMS ?h_Calendar_NIGHTS ?h_Calendar_GUESTS ?h_Stay_rd ?h_Stay_tg ?h_Stay_MOST
    (case a_is_whole => k_is)
    (case l_is_whole => k_is)
    (case c_is_whole_ => k_is)
    (case k_is_whole => k_is)
    (case a_is_from => k_is)
    (case l_is_from => k_is)
    (case c_is_from_ => k_is)
    (case k_is_from => k_is)
    (case a_is_day => k_is)
    (case l_is_day => k_is)
    (case c_is_day_ => k_is)
    (case k_is_day => k_is)
    (case a_StayError => k_is)
    (case a_BadCalendar => k_is)
    (case h_BadCalendar_l => k_is)
    (case h_BadCalendar_bm => first | rfl | decide +kernel)
    (case h_BadCalendar_sa => k_is)
    (case h_BadCalendar_ex => k_is)
    (case h_BadCalendar_ty => k_is)
    (case h_BadCalendar_kp => k_is)
    (case h_BadCalendar_ga => k_is)
    (case h_BadCalendar_gg => k_is)
    (case h_BadCalendar_hd => k_is)
    (case h_BadCalendar_cls => k_is)
    (case h_BadCalendar_mro => k_is)
    (case h_cget => k_is)
    (case h_ctak => k_is)
    (case h_nx_BadCalendar_part => k_is)
    (case a_BadCalendar___init__ => k_is)
    (case i_BadCalendar___init__ => k_is)
    (case l_BadCalendar___init__ => k_is)
    (case c_BadCalendar___init___ => k_is)
    (case k_BadCalendar___init__ => k_is)
    (case t_BadCalendar___init__ => k_is)
    (case a_Stay => k_is)
    (case h_Stay_pg => k_is)
    (case h_Stay_hd => k_is)
    (case h_Stay_po => k_is)
    (case h_Stay_sa => k_is)
    (case h_Stay_cls => k_is)
    (case h_Stay_get => k_is)
    (case h_Stay_tak => k_is)
    (case h_Stay_mro => k_is)
    (case h_na_Stay_first => k_is)
    (case h_na_Stay_after => k_is)
    (case h_na_Stay__nights => k_is)
    (case h_Stay_mk => k_is)
    (case h_Stay_kp => k_is)
    (case a_Stay___init__ => k_is)
    (case i_Stay___init__ => k_is)
    (case l_Stay___init__ => k_is)
    (case c_Stay___init___ => k_is)
    (case k_Stay___init__ => k_is)
    (case a_Calendar => k_is)
    (case h_Calendar_pg => k_is)
    (case h_Calendar_hd => k_is)
    (case h_Calendar_po => k_is)
    (case h_Calendar_sa => k_is)
    (case h_Calendar_cls => k_is)
    (case h_Calendar_get => k_is)
    (case h_Calendar_tak => k_is)
    (case h_Calendar_mro => k_is)
    (case h_na_Calendar_rooms => k_is)
    (case h_na_Calendar_first => k_is)
    (case h_na_Calendar_after => k_is)
    (case h_na_Calendar__stays => k_is)
    (case h_Calendar_mk => k_is)
    (case h_Calendar_kp => k_is)
    (case a_Calendar___init__ => k_is)
    (case i_Calendar___init__ => k_is)
    (case l_Calendar___init__ => k_is)
    (case c_Calendar___init___ => k_is)
    (case k_Calendar___init__ => k_is)
    (case a_Calendar___contains__ => k_is)
    (case i_Calendar___contains__ => k_is)
    (case l_Calendar___contains__ => k_is)
    (case c_Calendar___contains___ => k_is)
    (case k_Calendar___contains__ => k_is)
    (case a_Calendar___len__ => k_is)
    (case i_Calendar___len__ => k_is)
    (case l_Calendar___len__ => k_is)
    (case c_Calendar___len___ => k_is)
    (case k_Calendar___len__ => k_is)
    (case a_Calendar___iter__ => k_is)
    (case i_Calendar___iter__ => k_is)
    (case l_Calendar___iter__ => k_is)
    (case c_Calendar___iter___ => k_is)
    (case k_Calendar___iter__ => k_is)
    (case a_Calendar___eq__ => k_is)
    (case i_Calendar___eq__ => k_is)
    (case l_Calendar___eq__ => k_is)
    (case c_Calendar___eq___ => k_is)
    (case k_Calendar___eq__ => k_is)
    (case a_Calendar_guests => k_is)
    (case i_Calendar_guests => k_is)
    (case l_Calendar_guests => k_is)
    (case c_Calendar_guests_ => k_is)
    (case k_Calendar_guests => k_is)
    (case a_Calendar_supply => k_is)
    (case i_Calendar_supply => k_is)
    (case l_Calendar_supply => k_is)
    (case c_Calendar_supply_ => k_is)
    (case k_Calendar_supply => k_is)
    (case a_Calendar_room_plan => k_is)
    (case i_Calendar_room_plan => k_is)
    (case l_Calendar_room_plan => k_is)
    (case c_Calendar_room_plan_ => k_is)
    (case k_Calendar_room_plan => k_is)
    (case a_Calendar_with_rooms => k_is)
    (case i_Calendar_with_rooms => k_is)
    (case l_Calendar_with_rooms => k_is)
    (case c_Calendar_with_rooms_ => k_is)
    (case k_Calendar_with_rooms => k_is)
    (case a_Calendar_twin => k_is)
    (case i_Calendar_twin => k_is)
    (case l_Calendar_twin => k_is)
    (case c_Calendar_twin_ => k_is)
    (case k_Calendar_twin => k_is)
    (case h_Calendar_ne => k_is)
    (case pa_Calendar_names => k_is)
    (case pg_Calendar_names => k_is)
    (case pt_Calendar_names => k_is)
    (case pr_Calendar_names => k_is)
    (case l_Calendar_names => k_is)
    (case c_Calendar_names_ => k_is)
    (case k_Calendar_names => k_is)
    (case pa_Calendar_free_rooms => k_is)
    (case pg_Calendar_free_rooms => k_is)
    (case pt_Calendar_free_rooms => k_is)
    (case pr_Calendar_free_rooms => k_is)
    (case l_Calendar_free_rooms => k_is)
    (case c_Calendar_free_rooms_ => k_is)
    (case k_Calendar_free_rooms => k_is)
    (case a_parts_of => k_is)
    (case l_parts_of => k_is)
    (case c_parts_of_ => k_is)
    (case k_parts_of => k_is)
    (case a_names_by_stays => k_is)
    (case l_names_by_stays => k_is)
    (case c_names_by_stays_ => k_is)
    (case k_names_by_stays => k_is)
    (case h_exm_BadCalendar => kts_exm)
    (case h_kit_BC => kit_is)
    (case h_kit_BC_V => kit_is)
    (case h_sb_Calendar_NoneType => k_is)
    (case h_kit_NoneType_Calendar => kit_is)
    (case h_sb_Calendar_bool => k_is)
    (case h_kit_bool_Calendar => kit_is)
    (case h_sb_Calendar_int => k_is)
    (case h_kit_int_Calendar => kit_is)
    (case h_sb_Calendar_str => k_is)
    (case h_kit_str_Calendar => kit_is)
    (case h_sb_Calendar_tuple => k_is)
    (case h_kit_tuple_Calendar => kit_is)
    (case h_sb_Calendar_list => k_is)
    (case h_kit_list_Calendar => kit_is)
    (case h_sb_Calendar_dict => k_is)
    (case h_kit_dict_Calendar => kit_is)
    (case h_si_Calendar_NoneType => k_is)
    (case h_si_Calendar_tuple => k_is)
    (case h_si_Calendar_list => k_is)
    (case h_kit_Calendar => kit_is)
    (case h_kit_Stay => kit_is)
    (case h_kit_Stay_int => kit_is)
    (case h_si_Stay => k_is)
    (case h_si_Calendar => k_is)
    (case a__law_pen => k_is)
    (case l__law_pen => k_is)
    (case c__law_pen_ => k_is)
    (case k__law_pen => k_is)
    (case a__law_draw => k_is)
    (case l__law_draw => k_is)
    (case c__law_draw_ => k_is)
    (case k__law_draw => k_is)
    (case a__law_pick => k_is)
    (case l__law_pick => k_is)
    (case c__law_pick_ => k_is)
    (case k__law_pick => k_is)
    (case a__law_heard => k_is)
    (case l__law_heard => k_is)
    (case c__law_heard_ => k_is)
    (case k__law_heard => k_is)
    (case a__law_odd => k_is)
    (case l__law_odd => k_is)
    (case c__law_odd_ => k_is)
    (case k__law_odd => k_is)
    (case a__law_is_day => k_is)
    (case l__law_is_day => k_is)
    (case c__law_is_day_ => k_is)
    (case k__law_is_day => k_is)
    (case a__law_wrong => k_is)
    (case l__law_wrong => k_is)
    (case c__law_wrong_ => k_is)
    (case k__law_wrong => k_is)
    (case a__law_face_right => k_is)
    (case l__law_face_right => k_is)
    (case c__law_face_right_ => k_is)
    (case k__law_face_right => k_is)
    (case a__law_unlike_right => k_is)
    (case l__law_unlike_right => k_is)
    (case c__law_unlike_right_ => k_is)
    (case k__law_unlike_right => k_is)
    (case a_law => k_is)
    (case l_law => k_is)
    (case c_law_ => k_is)
    (case k_law => k_is)
    (case hc_law => k_is)
    (case ht_law => rfl)
    (case hb_law => first | rfl | decide +kernel)
    (case hg_law => exact PySem.W.km_tabs_of Y _ (by decide))
    (case hn_law => exact NN.none_of Y (by decide))
    (case z_isinstance => k_is)
    (case z_int => k_is)
    (case z_bool => k_is)
    (case z_str => k_is)
    (case z_len => k_is)
    (case z_tuple => k_is)
    (case z_range => k_is)
    (case z_list => k_is)
    (case z_dict => k_is)
    (case z_abs => k_is)
    (case z_iter => k_is)
    (case z_sorted => k_is)
    (case z_enumerate => k_is)
    (case z_repr => k_is)
    (case z_ValueError => k_is)
    (case a_LAST_DAY => k_is)
    (case h_Calendar_rd => k_is)
    (case h_Calendar_tg => k_is)
    (case h_Calendar_ROOMS => k_is)
    (case h_Calendar_NIGHTS => k_is)
    (case h_Calendar_GUESTS => k_is)
    (case h_Stay_rd => k_is)
    (case h_Stay_tg => k_is)
    (case h_Stay_MOST => k_is)
#print axioms PySem.Challenge.cw_nodeadnight_k41_calendars_made_holds
