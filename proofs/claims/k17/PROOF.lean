import PyProof.Rows.All
import Wide.All
import OpenK.AllK
import Wide.FinOn
import HandS.ForMost
import HandS.EndTab
import HandS.OwnEq
import HandS.IsInst
import HandS.Exc
import HandS.ExcInit
import HandS.ExcIs
import HandS.ExcField
import HandS.Conv
import HandS.FStr
import KE.KCallOwn
import HandS.ClsMeth
import HandS.Lambda
import HandS.WordsExc
import PyProof.NeKinds
import KE.KIsNot
import PyProof.MeetsIn
import PyProof.EqAt
import PyProof.MeetsSeq
import HandS.Property
import KE.KOwnIter
import KE.KDictIter
import PyProof.WalksMore
import HandS.IterVal
import HandS.Comp
import HandS.Star
import HandS.Style
import HandS.Text
import HandS.Wide
import HandS.ExcInitHot
import HandS.SuiteRaise
import HandS.RaiseFrom
import HandS.StrMore
import PyProof.Rows.ReprOcc
import PyProof.Rows.StrDigitsNeg
import KE.IntTextText
import KE.IntTextLaws
import HandS.Codes
import HandS.ReplaceList
import HandS.NoneIn
import HandS.More
import HandS.Defaults
import HandS.Small
import HandS.Dict
import HandS.RaiseMore
import KE.KMathGC
import HandS.Gcd
import HandS.SortKw
import HandS.Strs
import HandS.SetFor
import KE.DataMinMax
import KE.DataAny
import HandS.SortInts
import HandS.SetBool
import HandS.MakeKw
import HandS.MakeKwOnly
import HandS.DictSub
import HandS.Flow
import HandS.WideBits
import KE.RegKIsAll
import KE.RegKTryMore
import KE.OsRunLaw
import PySem.Challenge.RW_nodeadnight_k17_whole_days_and_stays
set_option Elab.async false
set_option linter.all false
set_option maxRecDepth 100000
set_option maxHeartbeats 4000000
/-! An abstract layer: a state is what is known (kn) and a count (n); the rest of the heap (a pen, tables of code objects, what a caller had) is kept by an invariant. -/
namespace AW
open PySem PySem.Spec PyProof.Rows L2

def isMut : HO → Bool
  | .lst _ => true | .dK _ => true | .dT _ => true | .set _ _ => true | .ins _ _ _ => true
  | _ => false
def isTbl : HO → Bool
  | .tbl _ => true
  | _ => false
/-- all that kn does not know, and all that never changes, is kept -/
def Kept (kn H H' : Hp) : Prop := ∀ x o, H x = some o → (kn x = none ∨ isMut o = false) → H' x = some o

structure Cw where
  inv : Nat → Hp → Prop
  res : Addr → Prop
  live : ∀ n H x, inv n H → res x → H x ≠ none
  step : ∀ n kn H H', inv n H → (∀ x, res x → kn x = none) → Kept kn H H' → inv n H'
  up : ∀ n m H, inv n H → n ≤ m → inv m H

structure Good (c : Cw) (kn : Hp) (n : Nat) (H : Hp) : Prop where
  ex : Ext kn H
  inv : c.inv n H
  res : ∀ x, c.res x → kn x = none
  nt : ∀ x o, kn x = some o → isTbl o = false

section
variable {c : Cw} {kn kn' H H' : Hp} {n m : Nat} {q : Addr} {o : HO}
theorem Good.free (g : Good c kn n H) (h : H q = none) : kn q = none := by
  cases e : kn q with
  | none => rfl
  | some u => rw [g.ex q u e] at h; cases h
theorem Good.up (g : Good c kn n H) (h : n ≤ m) : Good c kn m H := ⟨g.ex, c.up n m H g.inv h, g.res, g.nt⟩
theorem Kept.refl : Kept kn H H := fun _ _ h _ => h
/-- a new object -/
theorem nt_upd (h : ∀ x o, kn x = some o → isTbl o = false) (ht : isTbl o = false) : ∀ x u, upd kn q o x = some u → isTbl u = false := fun x u e => by
  by_cases hx : x = q
  · rw [hx, upd_same] at e; cases e; exact ht
  · rw [upd_ne hx] at e; exact h x u e
theorem Good.new (g : Good c kn n H) (h : H q = none) (ht : isTbl o = false := by rfl) : Good c (upd kn q o) n (upd H q o) := by
  refine ⟨fun x u e => ?_, c.step n kn H _ g.inv g.res (fun x u e _ => ?_), fun x r => ?_, nt_upd g.nt ht⟩
  · by_cases hx : x = q
    · rw [hx, upd_same] at e
      rw [hx, upd_same]
      exact e
    · rw [upd_ne hx] at e
      rw [upd_ne hx]
      exact g.ex x u e
  · rw [upd_ne (ne_of_none e h)]
    exact e
  · rw [upd_ne (fun z => c.live n H x g.inv r (by rw [z]; exact h))]
    exact g.res x r
/-- a known object is changed -/
theorem Good.put {u : HO} (g : Good c kn n H) (h : kn q = some u) (hm : isMut u = true) (ht : isTbl o = false := by rfl) : Good c (upd kn q o) n (upd H q o) := by
  refine ⟨fun x v e => ?_, c.step n kn H _ g.inv g.res (fun x v e k => ?_), fun x r => ?_, nt_upd g.nt ht⟩
  · by_cases hx : x = q
    · rw [hx, upd_same] at e
      rw [hx, upd_same]
      exact e
    · rw [upd_ne hx] at e
      rw [upd_ne hx]
      exact g.ex x v e
  · have hx : x ≠ q := fun z => by
      subst z
      have e2 := g.ex x u h
      rw [e] at e2
      cases e2
      rcases k with k | k
      · rw [h] at k; cases k
      · rw [hm] at k; cases k
    rw [upd_ne hx]
    exact e
  · rw [upd_ne (fun z => by subst z; have := g.res x r; rw [h] at this; cases this)]
    exact g.res x r
/-- the rest is only made longer -/
theorem Good.ext (g : Good c kn n H) (e : Ext H H') : Good c kn n H' :=
  ⟨fun x o h => e x o (g.ex x o h), c.step n kn H _ g.inv g.res fun x o h _ => e x o h, g.res, g.nt⟩
theorem know {a : Addr} {u : HO} (h : kn q = none) (e : kn a = some u) : upd kn q o a = some u := by
  rw [upd_ne (ne_of_none e h)]
  exact e
theorem free_upd {a : Addr} (h : kn q = none) (e : upd kn a o q = none) : True := trivial
theorem Ext.know {a : Addr} {u : HO} (x : Ext kn kn') (e : kn a = some u) : kn' a = some u := x a u e
end

/-- the abstract wish -/
def W {α : Type} (c : Cw) (t : Hp → (α → Hp → Prop) → Prop) (kn : Hp) (n : Nat) (Q : α → Hp → Nat → Prop) : Prop :=
  ∀ H, Good c kn n H → ∀ Q' : α → Hp → Prop, (∀ v kn' n' H', Q v kn' n' → Good c kn' n' H' → Q' v H') → t H Q'
structure AE where
  nx : L2.St → Hp → Nat → Prop
  rt : V → Hp → Nat → Prop
  bk : L2.St → Hp → Nat → Prop := fun _ _ _ => False
  ct : L2.St → Hp → Nat → Prop := fun _ _ _ => False
/-- an end is served by another -/
structure Fits (c : Cw) (D : AE) (D' : Ends) : Prop where
  nx : ∀ σ kn n H, D.nx σ kn n → Good c kn n H → D'.nx σ H
  rt : ∀ v kn n H, D.rt v kn n → Good c kn n H → D'.rt v H
  bk : ∀ σ kn n H, D.bk σ kn n → Good c kn n H → D'.bk σ H
  ct : ∀ σ kn n H, D.ct σ kn n → Good c kn n H → D'.ct σ H
def WS (c : Cw) (ts : TS) (D : AE) (σ : L2.St) (kn : Hp) (n : Nat) : Prop := ∀ H, Good c kn n H → ∀ D' : Ends, Fits c D D' → ts D' σ H

section
variable {c : Cw} {kn : Hp} {n : Nat} {σ : L2.St} {K : PySem.W.Frag}
theorem W.mono {α : Type} {t : Hp → (α → Hp → Prop) → Prop} {Q R : α → Hp → Nat → Prop} (h : W c t kn n Q) (k : ∀ v kn' n', Q v kn' n' → R v kn' n') : W c t kn n R :=
  fun H g Q' q => h H g Q' fun v kn' n' H' e => q v kn' n' H' (k v kn' n' e)

/-! ### expressions -/
variable {Q : V → Hp → Nat → Prop} {QB : Bool → Hp → Nat → Prop} {QA : List V → Hp → Nat → Prop} {QO : Option Int → Hp → Nat → Prop}
theorem w_var {i : Nat} {v : V} (h : σ[i]? = some (some v)) (q : Q v kn n) : W c (tVar i σ) kn n Q := fun H g _ k => ⟨v, h, k v kn n H q g⟩
theorem w_c {v : V} (q : Q v kn n) : W c (tC v σ) kn n Q := fun H g _ k => k v kn n H q g
theorem w_op {r : R2} {ta tb : TE} (h : W c (ta σ) kn n fun x kn1 n1 => W c (tb σ) kn1 n1 fun y kn2 n2 => W c (r x y) kn2 n2 Q) : W c (tOp r ta tb σ) kn n Q :=
  fun H g Q' q => h H g _ fun x kn1 n1 H1 h1 g1 => h1 H1 g1 _ fun y kn2 n2 H2 h2 g2 => h2 H2 g2 Q' q
theorem w_un {r : V → Hp → VK → Prop} {ta : TE} (h : W c (ta σ) kn n fun x kn1 n1 => W c (r x) kn1 n1 Q) : W c (tUn r ta σ) kn n Q :=
  fun H g Q' q => h H g _ fun x kn1 n1 H1 h1 g1 => h1 H1 g1 Q' q
theorem r_I0 {f : Int → Int → V} {i j : Int} (q : Q (f i j) kn n) : W c (rI0 f (.int i) (.int j)) kn n Q := fun H g _ k => ⟨i, j, rfl, rfl, k _ kn n H q g⟩
theorem r_I {C : Int → Int → Prop} {f : Int → Int → V} {i j : Int} (hc : C i j) (q : Q (f i j) kn n) : W c (rI C f (.int i) (.int j)) kn n Q := fun H g _ k => ⟨i, j, rfl, rfl, hc, k _ kn n H q g⟩
theorem r_U {f : Int → V} {i : Int} (q : Q (f i) kn n) : W c (rU f (.int i)) kn n Q := fun H g _ k => ⟨i, rfl, k _ kn n H q g⟩
theorem r_eq {x y : V} (h : scal x y = true) (q : Q (.bl (decide (x = y))) kn n) : W c (rEq x y) kn n Q := fun H g _ k => ⟨h, k _ kn n H q g⟩
theorem r_ne {x y : V} (h : scal x y = true) (q : Q (.bl (!decide (x = y))) kn n) : W c (rNe x y) kn n Q := fun H g _ k => ⟨h, k _ kn n H q g⟩
theorem sql {a : Addr} {xs : List V} {H : Hp} (h : H a = some (.lst xs)) : SqL K H a xs := .inl (.inl h)
theorem sqt {a : Addr} {xs : List V} {H : Hp} (h : H a = some (.tup xs)) : SqT K H a xs := .inl (.inl h)
theorem r_ixL {p : Addr} {xs : List V} {i : Int} {v : V} (h : kn p = some (.lst xs)) (e : atI xs i = some v) (q : Q v kn n) : W c (rIxL K (.ref p) (.int i)) kn n Q :=
  fun H g _ k => ⟨p, xs, i, v, rfl, rfl, sql (g.ex _ _ h), e, k _ kn n H q g⟩
theorem r_ixT {p : Addr} {xs : List V} {i : Int} {v : V} (h : kn p = some (.tup xs)) (e : atI xs i = some v) (q : Q v kn n) : W c (rIxT K (.ref p) (.int i)) kn n Q :=
  fun H g _ k => ⟨p, xs, i, v, rfl, rfl, sqt (g.ex _ _ h), e, k _ kn n H q g⟩
theorem w_nil (q : QA [] kn n) : W c (tNil σ) kn n QA := fun H g _ k => k _ kn n H q g
theorem w_cons {ta : TE} {tr : TA} (h : W c (ta σ) kn n fun x kn1 n1 => W c (tr σ) kn1 n1 fun xs kn2 n2 => QA (x :: xs) kn2 n2) : W c (tCons ta tr σ) kn n QA :=
  fun H g Q' q => h H g _ fun x kn1 n1 H1 h1 g1 => h1 H1 g1 _ fun xs kn2 n2 H2 h2 g2 => q _ kn2 n2 H2 h2 g2
theorem w_tup {t : TA} (h : W c (t σ) kn n fun xs kn1 n1 => xs.length ≤ 1000 ∧ ∀ q, kn1 q = none → Q (.ref q) (upd kn1 q (.tup xs)) n1) : W c (tTup t σ) kn n Q :=
  fun H g Q' q => h H g _ fun xs kn1 n1 H1 h1 g1 => ⟨Nat.le_trans h1.1 (by decide), fun p hp => q _ _ _ _ (h1.2 p (g1.free hp)) (g1.new hp)⟩
theorem w_lst {t : TA} (h : W c (t σ) kn n fun xs kn1 n1 => xs.length ≤ 1000 ∧ ∀ q, kn1 q = none → Q (.ref q) (upd kn1 q (.lst xs)) n1) : W c (tLst t σ) kn n Q :=
  fun H g Q' q => h H g _ fun xs kn1 n1 H1 h1 g1 => ⟨Nat.le_trans h1.1 (by decide), fun p hp => q _ _ _ _ (h1.2 p (g1.free hp)) (g1.new hp)⟩
theorem w_cb {r : List V → Hp → VK → Prop} {t : TA} (h : W c (t σ) kn n fun xs kn1 n1 => W c (r xs) kn1 n1 Q) : W c (tCB r t σ) kn n Q :=
  fun H g Q' q => h H g _ fun xs kn1 n1 H1 h1 g1 => h1 H1 g1 Q' q
theorem w_ifE {t : TT} {ta tb : TE} (h : W c (t σ) kn n fun b kn1 n1 => (b = true → W c (ta σ) kn1 n1 Q) ∧ (b = false → W c (tb σ) kn1 n1 Q)) : W c (tIf t ta tb σ) kn n Q :=
  fun H g Q' q => h H g _ fun b kn1 n1 H1 h1 g1 => by
    cases b with
    | true => exact iteT (h1.1 rfl H1 g1 Q' q)
    | false => exact iteF (h1.2 rfl H1 g1 Q' q)
theorem w_andV {ta tb : TE} (h : W c (ta σ) kn n fun x kn1 n1 => ∃ b, x = .bl b ∧ (b = true → W c (tb σ) kn1 n1 Q) ∧ (b = false → Q (.bl false) kn1 n1)) : W c (tAndV ta tb σ) kn n Q :=
  fun H g Q' q => h H g _ fun x kn1 n1 H1 h1 g1 => by
    obtain ⟨b, e, h2, h3⟩ := h1
    refine ⟨b, e, ?_⟩
    cases b with
    | true => exact iteT (h2 rfl H1 g1 Q' q)
    | false => exact iteF (q _ _ _ _ (h3 rfl) g1)
theorem w_orV {ta tb : TE} (h : W c (ta σ) kn n fun x kn1 n1 => ∃ b, x = .bl b ∧ (b = false → W c (tb σ) kn1 n1 Q) ∧ (b = true → Q (.bl true) kn1 n1)) : W c (tOrV ta tb σ) kn n Q :=
  fun H g Q' q => h H g _ fun x kn1 n1 H1 h1 g1 => by
    obtain ⟨b, e, h2, h3⟩ := h1
    refine ⟨b, e, ?_⟩
    cases b with
    | true => exact iteT (q _ _ _ _ (h3 rfl) g1)
    | false => exact iteF (h2 rfl H1 g1 Q' q)
theorem w_notV {ta : TE} (h : W c (ta σ) kn n fun x kn1 n1 => ∃ b, x = .bl b ∧ Q (.bl (!b)) kn1 n1) : W c (tNotV ta σ) kn n Q :=
  fun H g Q' q => h H g _ fun x kn1 n1 H1 h1 g1 => by
    obtain ⟨b, e, h2⟩ := h1
    exact ⟨b, e, q _ _ _ _ h2 g1⟩

/-! ### tests -/
theorem w_test {t : TE} (h : W c (t σ) kn n fun x kn1 n1 => ∃ b, x = .bl b ∧ QB b kn1 n1) : W c (tTest t σ) kn n QB :=
  fun H g Q' q => h H g _ fun x kn1 n1 H1 h1 g1 => by
    obtain ⟨b, e, h2⟩ := h1
    exact ⟨b, e, q _ _ _ _ h2 g1⟩
theorem w_B {t : TE} (h : W c (t σ) kn n fun x kn1 n1 => ∃ b, x = .bl b ∧ QB b kn1 n1) : W c (tB t σ) kn n QB :=
  fun H g Q' q => h H g _ fun x kn1 n1 H1 h1 g1 => by
    obtain ⟨b, e, h2⟩ := h1
    exact ⟨b, e, q _ _ _ _ h2 g1⟩
theorem w_and {t u : TT} (h : W c (t σ) kn n fun b kn1 n1 => (b = true → W c (u σ) kn1 n1 QB) ∧ (b = false → QB false kn1 n1)) : W c (tAnd t u σ) kn n QB :=
  fun H g Q' q => h H g _ fun b kn1 n1 H1 h1 g1 => by
    cases b with
    | true => exact iteT (h1.1 rfl H1 g1 Q' q)
    | false => exact iteF (q _ _ _ _ (h1.2 rfl) g1)
theorem w_or {t u : TT} (h : W c (t σ) kn n fun b kn1 n1 => (b = false → W c (u σ) kn1 n1 QB) ∧ (b = true → QB true kn1 n1)) : W c (tOr t u σ) kn n QB :=
  fun H g Q' q => h H g _ fun b kn1 n1 H1 h1 g1 => by
    cases b with
    | true => exact iteT (q _ _ _ _ (h1.2 rfl) g1)
    | false => exact iteF (h1.1 rfl H1 g1 Q' q)
theorem w_not {t : TT} (h : W c (t σ) kn n fun b kn1 n1 => QB (!b) kn1 n1) : W c (tNot t σ) kn n QB :=
  fun H g Q' q => h H g _ fun b kn1 n1 H1 h1 g1 => q _ _ _ _ h1 g1

/-! ### slices -/
theorem w_noPart (q : QO none kn n) : W c (tNoPart σ) kn n QO := fun H g _ k => k _ kn n H q g
theorem w_part {t : TE} (h : W c (t σ) kn n fun x kn1 n1 => ∃ i, x = .int i ∧ QO (some i) kn1 n1) : W c (tPart t σ) kn n QO :=
  fun H g Q' q => h H g _ fun x kn1 n1 H1 h1 g1 => by
    obtain ⟨i, e, h2⟩ := h1
    exact ⟨i, e, q _ _ _ _ h2 g1⟩
theorem w_sl {r : V → Option Int → Option Int → Hp → VK → Prop} {te : TE} {tl th : TO}
    (h : W c (te σ) kn n fun x kn1 n1 => W c (tl σ) kn1 n1 fun l kn2 n2 => W c (th σ) kn2 n2 fun u kn3 n3 => W c (r x l u) kn3 n3 Q) : W c (tSl r te tl th σ) kn n Q :=
  fun H g Q' q => h H g _ fun x kn1 n1 H1 h1 g1 => h1 H1 g1 _ fun l kn2 n2 H2 h2 g2 => h2 H2 g2 _ fun u kn3 n3 H3 h3 g3 => h3 H3 g3 Q' q
theorem r_slL {p : Addr} {xs : List V} {lo hi : Option Int} (h : kn p = some (.lst xs)) (q : ∀ l, kn l = none → Q (.ref l) (upd kn l (.lst (cutV xs lo hi))) n) : W c (rSlL K (.ref p) lo hi) kn n Q :=
  fun H g _ k => ⟨p, xs, rfl, sql (g.ex _ _ h), fun l hl => k _ _ _ _ (q l (g.free hl)) (g.new hl)⟩

/-! ### fields, objects -/
theorem w_fld {ta : TE} {f : Str} (h : W c (ta σ) kn n fun x kn1 n1 => ∃ a C dx fs v, x = .ref a ∧ kn1 a = some (.ins C dx fs) ∧ Cls K C ∧ NoAttr K C f ∧ fs.lookup f = some v ∧ Q v kn1 n1) : W c (tFld K ta f σ) kn n Q :=
  fun H g Q' q => h H g _ fun x kn1 n1 H1 h1 g1 => by
    obtain ⟨a, C, dx, fs, v, e, h2, hc, hn, hl, h3⟩ := h1
    exact ⟨a, C, dx, fs, v, e, g1.ex _ _ h2, hc, hn, hl, q _ _ _ _ h3 g1⟩

/-! ### statements -/
variable {D : AE}
theorem s_next (q : D.nx σ kn n) : WS c tNext D σ kn n := fun H g D' f => f.nx σ kn n H q g
theorem s_seq {t u : TS} (h : WS c t { D with nx := fun σ1 kn1 n1 => WS c u D σ1 kn1 n1 } σ kn n) : WS c (tSeq t u) D σ kn n :=
  fun H g D' f => h H g { D' with nx := u D' } ⟨fun σ1 kn1 n1 H1 h1 g1 => h1 H1 g1 D' f, f.rt, f.bk, f.ct⟩
theorem s_ret {te : TE} (h : W c (te σ) kn n D.rt) : WS c (tRet te) D σ kn n := fun H g D' f => h H g D'.rt fun v kn1 n1 H1 h1 g1 => f.rt v kn1 n1 H1 h1 g1
theorem s_retN (h : D.rt .non kn n) : WS c tRetN D σ kn n := fun H g D' f => f.rt _ kn n H h g
theorem s_drop {te : TE} (h : W c (te σ) kn n fun _ kn1 n1 => D.nx σ kn1 n1) : WS c (tDrop te) D σ kn n := fun H g D' f => h H g _ fun v kn1 n1 H1 h1 g1 => f.nx σ kn1 n1 H1 h1 g1
theorem s_brk (h : D.bk σ kn n) : WS c tBreak D σ kn n := fun H g D' f => f.bk σ kn n H h g
theorem s_cont (h : D.ct σ kn n) : WS c tCont D σ kn n := fun H g D' f => f.ct σ kn n H h g
theorem s_if {t : TT} {u w : TS} (h : W c (t σ) kn n fun b kn1 n1 => (b = true → WS c u D σ kn1 n1) ∧ (b = false → WS c w D σ kn1 n1)) : WS c (tIfS t u w) D σ kn n :=
  fun H g D' f => h H g _ fun b kn1 n1 H1 h1 g1 => by
    cases b with
    | true => exact iteT (h1.1 rfl H1 g1 D' f)
    | false => exact iteF (h1.2 rfl H1 g1 D' f)
/-- targets -/
def WG (c : Cw) (gt : TG) (v : V) (σ : L2.St) (kn : Hp) (n : Nat) (N : L2.St → Hp → Nat → Prop) : Prop :=
  ∀ H, Good c kn n H → ∀ N' : L2.St → Hp → Prop, (∀ σ1 kn1 n1 H1, N σ1 kn1 n1 → Good c kn1 n1 H1 → N' σ1 H1) → gt v σ H N'
theorem g_name {i : Nat} {v : V} {N : L2.St → Hp → Nat → Prop} (h : N (σ.set i (some v)) kn n) : WG c (gName i) v σ kn n N := fun H g N' f => f _ kn n H h g
def WGs (c : Cw) (gt : TGs) (vs : List V) (σ : L2.St) (kn : Hp) (n : Nat) (N : L2.St → Hp → Nat → Prop) : Prop :=
  ∀ H, Good c kn n H → ∀ N' : L2.St → Hp → Prop, (∀ σ1 kn1 n1 H1, N σ1 kn1 n1 → Good c kn1 n1 H1 → N' σ1 H1) → gt vs σ H N'
theorem g_nil {N : L2.St → Hp → Nat → Prop} (h : N σ kn n) : WGs c gNil [] σ kn n N := fun H g N' f => ⟨rfl, f _ kn n H h g⟩
theorem g_cons {t : TG} {u : TGs} {v : V} {r : List V} {N : L2.St → Hp → Nat → Prop} (h : WG c t v σ kn n fun σ1 kn1 n1 => WGs c u r σ1 kn1 n1 N) : WGs c (gCons t u) (v :: r) σ kn n N :=
  fun H g N' f => ⟨v, r, rfl, h H g _ fun σ1 kn1 n1 H1 h1 g1 => h1 H1 g1 N' f⟩
theorem g_tup {k : Nat} {t : TGs} {a : Addr} {xs : List V} {N : L2.St → Hp → Nat → Prop} (h : kn a = some (.tup xs)) (hl : xs.length = k) (q : WGs c t xs σ kn n N) : WG c (gTup K k t) (.ref a) σ kn n N :=
  fun H g N' f => ⟨a, xs, rfl, sqt (g.ex _ _ h), hl, q H g N' f⟩
theorem s_asg {te : TE} {gt : TG} (h : W c (te σ) kn n fun v kn1 n1 => WG c gt v σ kn1 n1 D.nx) : WS c (tAsg te gt) D σ kn n :=
  fun H g D' f => h H g _ fun v kn1 n1 H1 h1 g1 => h1 H1 g1 D'.nx fun σ2 kn2 n2 H2 h2 g2 => f.nx σ2 kn2 n2 H2 h2 g2
theorem s_set {te : TE} {i : Nat} (h : W c (te σ) kn n fun v kn1 n1 => D.nx (σ.set i (some v)) kn1 n1) : WS c (tAsg te (gName i)) D σ kn n :=
  s_asg (h.mono fun _ _ _ q => g_name q)
theorem s_par {i j : Nat} {ta : TA} (h : W c (ta σ) kn n fun vs kn1 n1 => ∃ v w, vs = [v, w] ∧ D.nx ((σ.set i (some v)).set j (some w)) kn1 n1) : WS c (tPar i j ta) D σ kn n :=
  fun H g D' f => h H g _ fun vs kn1 n1 H1 h1 g1 => by
    obtain ⟨v, w, e, h2⟩ := h1
    exact ⟨v, w, e, f.nx _ _ _ _ h2 g1⟩
theorem g_set {to ti : TE} {v : V} {N : L2.St → Hp → Nat → Prop}
    (h : W c (to σ) kn n fun o kn1 n1 => W c (ti σ) kn1 n1 fun i kn2 n2 => ∃ p xs k j, o = .ref p ∧ i = .int k ∧ kn2 p = some (.lst xs) ∧ ixN xs.length k = some j ∧ N σ (upd kn2 p (.lst (xs.set j v))) n2) : WG c (gSub to ti rSetL) v σ kn n N :=
  fun H g N' f => h H g _ fun o kn1 n1 H1 h1 g1 => h1 H1 g1 _ fun i kn2 n2 H2 h2 g2 => by
    obtain ⟨p, xs, k, j, e1, e2, e3, e4, h3⟩ := h2
    exact ⟨p, xs, k, j, e1, e2, g2.ex _ _ e3, e4, f _ _ _ _ h3 (g2.put e3 rfl)⟩

/-! ### loops -/
theorem s_forR1 {ta : TA} {gt : TG} {tb : TS} {j : Int} (Pv : Nat → L2.St → Hp → Nat → Prop)
    (h : W c (ta σ) kn n fun vs kn1 n1 => vs = [.int j] ∧ -(2 ^ 62) ≤ j ∧ j < 2 ^ 62 ∧ Pv 0 σ kn1 n1)
    (hs : ∀ i σ' kn' n', i < j.toNat → Pv i σ' kn' n' → WG c gt (.int (i : Int)) σ' kn' n' fun σ2 kn2 n2 => WS c tb { D with nx := Pv (i + 1), ct := Pv (i + 1), bk := D.nx } σ2 kn2 n2)
    (hd : ∀ σ' kn' n', Pv j.toNat σ' kn' n' → D.nx σ' kn' n') : WS c (tFor (iRng1 ta) gt tb) D σ kn n :=
  fun H g D' f => h H g _ fun vs kn1 n1 H1 h1 g1 => by
    obtain ⟨e, b1, b2, h2⟩ := h1
    refine ⟨j, e, b1, b2, for_range (lo := 0) (n := j.toNat) (fun i σ' H' => ∃ kn' n', Pv i σ' kn' n' ∧ Good c kn' n' H') ⟨kn1, n1, h2, g1⟩ (fun i σ' H' hi p => ?_) (fun σ' H' p => ?_)⟩
    · obtain ⟨kn', n', p, g'⟩ := p
      have e0 : (0 : Int) + (i : Int) = (i : Int) := Int.zero_add _
      rw [e0]
      refine hs i σ' kn' n' hi p H' g' _ fun σ2 kn2 n2 H2 h2 g2 => h2 H2 g2 _ ⟨fun σ3 kn3 n3 H3 h3 g3 => ⟨kn3, n3, h3, g3⟩, f.rt, fun σ3 kn3 n3 H3 h3 g3 => f.nx _ _ _ _ h3 g3, fun σ3 kn3 n3 H3 h3 g3 => ⟨kn3, n3, h3, g3⟩⟩
    · obtain ⟨kn', n', p, g'⟩ := p
      exact f.nx _ _ _ _ (hd σ' kn' n' p) g'
end
end AW

namespace AW
open PySem PySem.Spec PyProof.Rows L2 LamX

/-! ### contexts: a def without a pen -/
/-- all that the caller had, but what kn0 knows and may change -/
def pureC (kn0 H0 : Hp) : Cw where
  inv _ H := Kept kn0 H0 H
  res x := H0 x ≠ none ∧ kn0 x = none
  live n H x k r := by
    obtain ⟨r1, r2⟩ := r
    cases e : H0 x with
    | none => exact absurd e r1
    | some o =>
      rw [k x o e (.inl r2)]
      exact fun z => nomatch z
  step n kn H H' k r s := fun x o e h => by
    refine s x o (k x o e h) ?_
    rcases h with h | h
    · exact .inl (r x ⟨(by rw [e]; exact fun z => nomatch z), h⟩)
    · exact .inr h
  up _ _ _ h _ := h
theorem pure_start {kn H : Hp} (h : Ext kn H) (t : ∀ x o, kn x = some o → isTbl o = false) : Good (pureC kn H) kn 0 H := ⟨h, Kept.refl, fun _ r => r.2, t⟩
theorem pure_any {kn0 H0 kn H : Hp} {n m : Nat} (g : Good (pureC kn0 H0) kn n H) : Good (pureC kn0 H0) kn m H := ⟨g.ex, g.inv, g.res, g.nt⟩
/-- a state of the callee is one of the caller -/
theorem Good.back {c : Cw} {kn kn' H H' : Hp} {n m : Nat} (g : Good c kn n H) (h : Good (pureC kn H) kn' m H') : Good c kn' n H' :=
  ⟨h.ex, c.step n kn H H' g.inv g.res h.inv, fun x r => h.res x ⟨c.live n H x g.inv r, g.res x r⟩, h.nt⟩

theorem both_t {A B : Prop} (h : A) : (true = true → A) ∧ (true = false → B) := ⟨fun _ => h, fun z => Bool.noConfusion z⟩
theorem both_f {A B : Prop} (h : B) : (false = true → A) ∧ (false = false → B) := ⟨fun z => Bool.noConfusion z, fun _ => h⟩
abbrev AK := V → Hp → Prop
abbrev AXK := Value → Option Addr → Hp → Prop
/-- a promise told of what is known -/
def liftX (B : List V → Hp → AK → AXK → Prop) : Sp := fun vs H Q E => ∃ kn, Ext kn H ∧ (∀ x o, kn x = some o → isTbl o = false) ∧ B vs kn (fun v kn' => ∀ n' H', Good (pureC kn H) kn' n' H' → Q v H') (fun cls d kn' => ∀ n' H', Good (pureC kn H) kn' n' H' → E cls d H')
def MonoX (B : List V → Hp → AK → AXK → Prop) : Prop := ∀ vs kn Q R E F, (∀ v k, Q v k → R v k) → (∀ cls d k, E cls d k → F cls d k) → B vs kn Q E → B vs kn R F
abbrev noX (B : List V → Hp → AK → Prop) : List V → Hp → AK → AXK → Prop := fun vs kn Q _ => B vs kn Q
section
variable {c : Cw} {kn : Hp} {n : Nat} {σ : L2.St} {Q : V → Hp → Nat → Prop} {K : PySem.W.Frag}
theorem sp_call {B : List V → Hp → AK → AXK → Prop} {vs : List V} {E : XK} {EA : Value → Option Addr → Hp → Nat → Prop} (hm : MonoX B)
    (hE : ∀ cls d kn' n' H', EA cls d kn' n' → Good c kn' n' H' → E cls d H') (h : B vs kn (fun v k => Q v k n) (fun cls d k => EA cls d k n)) : W c (fun H Q' => liftX B vs H Q' E) kn n Q :=
  fun H g Q' q => ⟨kn, g.ex, g.nt, hm vs kn _ _ _ _ (fun v k hq n' H' g' => q v k n H' hq (g.back g')) (fun cls d k he n' H' g' => hE cls d k n H' he (g.back g')) h⟩
theorem w_callX {B : List V → Hp → AK → AXK → Prop} {dvs : List V} {E : XK} {t : TA} {EA : Value → Option Addr → Hp → Nat → Prop} (hm : MonoX B)
    (hE : ∀ cls d kn' n' H', EA cls d kn' n' → Good c kn' n' H' → E cls d H') (h : W c (t σ) kn n fun vs kn1 n1 => B (vs ++ dvs) kn1 (fun v k => Q v k n1) (fun cls d k => EA cls d k n1)) : W c (tCall (liftX B) dvs E t σ) kn n Q :=
  fun H g Q' q => h H g _ fun vs kn1 n1 H1 h1 g1 => sp_call hm hE h1 H1 g1 Q' q
theorem w_call0 {B : List V → Hp → AK → AXK → Prop} {dvs : List V} {E : XK} {t : TA} (hm : MonoX B)
    (h : W c (t σ) kn n fun vs kn1 n1 => B (vs ++ dvs) kn1 (fun v k => Q v k n1) (fun _ _ _ => False)) : W c (tCall (liftX B) dvs E t σ) kn n Q :=
  w_callX (EA := fun _ _ _ _ => False) hm (fun _ _ _ _ _ h => h.elim) h
/-- the ends of a def's body -/
abbrev bodyE (c : Cw) (Q : VK) : AE := { nx := fun _ kn n => ∀ H', Good c kn n H' → Q .non H', rt := fun v kn n => ∀ H', Good c kn n H' → Q v H' }
theorem fits_body {c : Cw} {Q : VK} : Fits c (bodyE c Q) { nx := fun _ H' => Q .non H', rt := Q } :=
  ⟨fun σ kn n H h g => h H g, fun v kn n H h g => h H g, fun _ _ _ _ h _ => h.elim, fun _ _ _ _ h _ => h.elim⟩
theorem body_of {c : Cw} {t : TS} {Q : VK} {H : Hp} (g : Good c kn n H) (h : WS c t (bodyE c Q) σ kn n) : t { nx := fun _ H' => Q .non H', rt := Q } σ H := h H g _ fits_body
theorem s_mono {D D' : AE} {t : TS} (h : WS c t D σ kn n) (e1 : ∀ σ kn n, D.nx σ kn n → D'.nx σ kn n) (e2 : ∀ v kn n, D.rt v kn n → D'.rt v kn n) (e3 : ∀ σ kn n, D.bk σ kn n → D'.bk σ kn n) (e4 : ∀ σ kn n, D.ct σ kn n → D'.ct σ kn n) : WS c t D' σ kn n :=
  fun H g D2 f => h H g D2 ⟨fun σ kn n H h g => f.nx σ kn n H (e1 _ _ _ h) g, fun v kn n H h g => f.rt v kn n H (e2 _ _ _ h) g, fun σ kn n H h g => f.bk σ kn n H (e3 _ _ _ h) g, fun σ kn n H h g => f.ct σ kn n H (e4 _ _ _ h) g⟩
/-- the ways of a statement are joined -/
theorem s_join {D : AE} {t : TS} (J : L2.St → Hp → Nat → Prop) (h : WS c t { D with nx := J } σ kn n) (k : ∀ σ' kn' n', J σ' kn' n' → D.nx σ' kn' n') : WS c t D σ kn n :=
  s_mono h k (fun _ _ _ h => h) (fun _ _ _ h => h) (fun _ _ _ h => h)
theorem s_seqJ {D : AE} {t u : TS} (J : L2.St → Hp → Nat → Prop) (h : WS c t { D with nx := J } σ kn n) (k : ∀ σ' kn' n', J σ' kn' n' → WS c u D σ' kn' n') : WS c (tSeq t u) D σ kn n :=
  s_seq (s_join J h k)

/-! ### built-ins by names of their own -/
def rInt1 : List V → Hp → VK → Prop := fun xs H Q => (∃ i, xs = [.int i] ∧ Q (.int i) H) ∨ ∃ k, xs = [.bl k] ∧ Q (.int (if k then 1 else 0)) H
theorem c_int {X : Cx} : CallR X (.type "int") rInt1 := call_int1
theorem r_int1 {i : Int} (q : Q (.int i) kn n) : W c (rInt1 [.int i]) kn n Q := fun H g _ k => .inl ⟨i, rfl, k _ kn n H q g⟩
theorem r_int1b {b : Bool} (q : Q (.int (if b then 1 else 0)) kn n) : W c (rInt1 [.bl b]) kn n Q := fun H g _ k => .inr ⟨b, rfl, k _ kn n H q g⟩
def rAbs : List V → Hp → VK → Prop := fun xs H Q => ∃ i, xs = [.int i] ∧ Q (.int (if i < 0 then -i else i)) H
theorem c_abs {X : Cx} : CallR X (.builtin "abs") rAbs := call_abs
theorem r_abs {i : Int} (q : Q (.int (if i < 0 then -i else i)) kn n) : W c (rAbs [.int i]) kn n Q := fun H g _ k => ⟨i, rfl, k _ kn n H q g⟩
def rLenQ (K : PySem.W.Frag) : List V → Hp → VK → Prop := fun xs H Q => ∃ p ys, xs = [.ref p] ∧ (SqL K H p ys ∨ SqT K H p ys) ∧ Q (.int ys.length) H
theorem c_len {X : Cx} : CallR X (.builtin "len") (rLenQ X.K) := call_len_seq
theorem r_lenL {p : Addr} {xs : List V} (h : kn p = some (.lst xs)) (q : Q (.int xs.length) kn n) : W c (rLenQ K [.ref p]) kn n Q := fun H g _ k => ⟨p, xs, rfl, .inl (sql (g.ex _ _ h)), k _ kn n H q g⟩
theorem r_lenT {p : Addr} {xs : List V} (h : kn p = some (.tup xs)) (q : Q (.int xs.length) kn n) : W c (rLenQ K [.ref p]) kn n Q := fun H g _ k => ⟨p, xs, rfl, .inr (sqt (g.ex _ _ h)), k _ kn n H q g⟩
def rListQ (K : PySem.W.Frag) : List V → Hp → VK → Prop := fun xs H Q => ∃ p ys, xs = [.ref p] ∧ (SqL K H p ys ∨ SqT K H p ys) ∧ ∀ l, H l = none → Q (.ref l) (upd H l (.lst ys))
theorem c_list {X : Cx} : CallR X (.type "list") (rListQ X.K) := call_list_of
theorem r_listL {p : Addr} {xs : List V} (h : kn p = some (.lst xs)) (q : ∀ l, kn l = none → Q (.ref l) (upd kn l (.lst xs)) n) : W c (rListQ K [.ref p]) kn n Q := fun H g _ k => ⟨p, xs, rfl, .inl (sql (g.ex _ _ h)), fun l hl => k _ _ _ _ (q l (g.free hl)) (g.new hl)⟩
def rStrI : List V → Hp → VK → Prop := fun xs H Q => ∃ i, xs = [.int i] ∧ i.natAbs.log2 < 1920 ∧ Q (.str (toString i)) H
theorem c_strI {X : Cx} : CallR X (.type "str") rStrI := call_str_int
theorem r_strI {i : Int} (h : i.natAbs.log2 < 1920) (q : Q (.str (toString i)) kn n) : W c (rStrI [.int i]) kn n Q := fun H g _ k => ⟨i, rfl, h, k _ kn n H q g⟩

/-! ### == of data -/
theorem r_eqD {x y : V} {d e : PyData} (hx : Dp K kn x d) (hy : Dp K kn y e) (sx : SeqAt.shaped d = true) (sy : SeqAt.shaped e = true) (hmono : ∀ H v d, Ext kn H → Dp K kn v d → Dp K H v d) (q : Q (.bl (PyData.eqv d e)) kn n) : W c (rEqD K x y) kn n Q :=
  fun H g _ k => ⟨d, e, hmono H x d g.ex hx, hmono H y e g.ex hy, sx, sy, k _ kn n H q g⟩
mutual
theorem Dp.ext {H H' : Hp} (e : Ext H H') : ∀ (d : PyData) (v : V), Dp K H v d → Dp K H' v d
  | .none, _, h => by cases h; exact .non
  | .bool b, _, h => by cases h; exact .bl b
  | .int i, _, h => by cases h; exact .int i
  | .str x, _, h => by cases h; exact .str x
  | .list ds, _, h => by
    cases h with
    | lst hs ha => exact .lst (hs.ext e) (Dp.extAll e ds _ ha)
  | .tuple ds, _, h => by
    cases h with
    | tup hs ha => exact .tup (hs.ext e) (Dp.extAll e ds _ ha)
  | .dict _, _, h => by cases h
theorem Dp.extAll {H H' : Hp} (e : Ext H H') : ∀ (ds : List PyData) (vs : List V), DpAll K H vs ds → DpAll K H' vs ds
  | [], _, h => by cases h; exact .nil
  | d :: ds, _, h => by
    cases h with
    | cons h1 h2 => exact .cons (Dp.ext e d _ h1) (Dp.extAll e ds _ h2)
end
theorem r_eq_d {x y : V} {d e : PyData} (hx : Dp K kn x d) (hy : Dp K kn y e) (sx : SeqAt.shaped d = true) (sy : SeqAt.shaped e = true) (q : Q (.bl (PyData.eqv d e)) kn n) : W c (rEqD K x y) kn n Q :=
  r_eqD hx hy sx sy (fun H v d e h => Dp.ext e d v h) q
theorem r_ne_d {x y : V} {d e : PyData} (hx : Dp K kn x d) (hy : Dp K kn y e) (sx : SeqAt.shaped d = true) (sy : SeqAt.shaped e = true) (q : Q (.bl (!PyData.eqv d e)) kn n) : W c (rNeD K x y) kn n Q :=
  fun H g _ k => ⟨d, e, Dp.ext g.ex d x hx, Dp.ext g.ex e y hy, sx, sy, k _ kn n H q g⟩
end
end AW

/-! Operators of own classes. -/
namespace OX
open PySem PySem.W PySem.Calls PyProof.Rows Builtin
section
variable {prog : Program} {w : World} {A : Around} {E : Value → Shared → Prop} {s : Shared} {K : Frag} {x C f : Addr} {ox : Obj} {od : Option Obj} {b : Value}

theorem numSlot_own {M : Model} {h : Heap} {nm : String} (X : K.In h) (hs : findIn K (.ref C) (PySem.dunder nm) = some (some (.ref f))) (hr : findIn K (.ref C) (dunderR nm) = some none) :
    Looks M h (numberSlotInPython (.ref C) nm) true := by
  intro A Q E s k q
  unfold numberSlotInPython
  dsimp only
  refine wpAny_bind (looks_findIn X hs A _ E s k ?_)
  show wpAny M A (pure true >>= _) _ _ _
  refine wpAny_bind (wpAny_pure ?_)
  refine wpAny_bind (looks_findIn X hr A _ E s k ?_)
  show wpAny M A (pure false >>= _) _ _ _
  refine wpAny_bind (wpAny_pure ?_)
  simp only [Bool.or_false, if_true]
  exact wpAny_pure q
/-- an operator of an own class, the other operand of a built-in type -/
theorem binop1_T {nm T : String} {r : Bool} {o : Option Value} {Q : Value → Shared → Prop} (X : K.In s.heap) (I : InstAt s.heap x ox C od) (hb : Looks (model prog w) s.heap (typeOf b) (.type T)) (hc : selfFirst K C = true)
    (hs : findIn K (.ref C) (PySem.dunder nm) = some (some (.ref f))) (hf : isFn K (.ref f) = true) (hr : findIn K (.ref C) (dunderR nm) = some none) (fill : fillsNumberSlot (.type T) nm = pure r)
    (sub : subIn K (.type T) (.ref C) = some false) (hT : typeLookup (.type T) (dunderR nm) = pure o)
    (h : wpAny (model prog w) A (call (.ref f) [.ref x, b]) (PySem.W.CmpBack Q) E s) : wpAny (model prog w) A (binaryOp1 nm (.ref x) b) (fun r s' => ∃ v, r = some v ∧ Q v s') E s := by
  obtain ⟨cd, hcd, hm⟩ := any_some hc
  obtain ⟨rest, hm⟩ : ∃ rest, cd.mro = .ref C :: rest := by
    cases q : cd.mro with
    | nil => rw [q] at hm; cases hm
    | cons a r => rw [q] at hm; exact ⟨r, by rw [List.head?_cons] at hm; cases (beq_iff_eq.mp hm); rfl⟩
  have ne : ((Value.ref C) == (Value.type T)) = false := beq_eq_false_iff_ne.mpr (fun z => nomatch z)
  have last : ∀ {α : Type} (k : Option Value → Sem α) (P : α → Shared → Prop), (∀ v s', PySem.W.CmpBack Q v s' → wpAny (model prog w) A (k (some v)) P E s') → wpAny (model prog w) A (tryMethod (.ref x) (PySem.dunder nm) b >>= k) P E s := fun k P hk => by
    refine wpAny_bind ?_
    unfold tryMethod
    refine wpAny_bind (special_fn X I hs (beq_iff_eq.mp hf) (wpAny_mono h (fun v s' hv => ?_) fun _ _ e => e))
    cases v <;> first | exact hv.elim | exact wpAny_pure (hk _ _ hv)
  unfold binaryOp1
  refine wpAny_bind (I.type.here (wpAny_bind (hb.here (wpAny_bind ((fills_K X hcd hm hs).here ?_)))))
  rw [ne]
  simp only [Bool.false_eq_true, if_false]
  refine wpAny_bind (wpAny_of_eq fill ?_)
  cases r with
  | false =>
    simp only [Bool.and_false, Bool.false_eq_true, if_false, Bool.false_and]
    refine wpAny_bind (wpAny_pure ?_)
    simp only [Bool.false_eq_true, if_false, if_true]
    refine last _ _ fun v s' hv => ?_
    cases v <;> first | exact hv.elim | exact wpAny_pure ⟨_, rfl, hv⟩
  | true =>
    simp only [Bool.and_true, if_true]
    refine wpAny_bind ((looks_subIn X sub).here ?_)
    simp only [Bool.false_eq_true, if_false, Bool.not_false, Bool.and_true, if_true]
    refine wpAny_bind ((numSlot_own X hs hr).here ?_)
    simp only [if_true]
    refine wpAny_bind (wpAny_of_eq (show numberSlotInPython (.type T) nm = pure false from rfl) ?_)
    simp only [Bool.not_false, if_true]
    refine wpAny_bind (wpAny_of_eq hT ?_)
    refine last _ _ fun v s' hv => ?_
    cases v <;> first | exact hv.elim | exact wpAny_pure ⟨_, rfl, hv⟩
/-- .. the other operand of the same class -/
theorem binop1_C {nm : String} {Q : Value → Shared → Prop} (X : K.In s.heap) (I : InstAt s.heap x ox C od) (hb : Looks (model prog w) s.heap (typeOf b) (.ref C)) (hc : selfFirst K C = true)
    (hs : findIn K (.ref C) (PySem.dunder nm) = some (some (.ref f))) (hf : isFn K (.ref f) = true)
    (h : wpAny (model prog w) A (call (.ref f) [.ref x, b]) (PySem.W.CmpBack Q) E s) : wpAny (model prog w) A (binaryOp1 nm (.ref x) b) (fun r s' => ∃ v, r = some v ∧ Q v s') E s := by
  obtain ⟨cd, hcd, hm⟩ := any_some hc
  obtain ⟨rest, hm⟩ : ∃ rest, cd.mro = .ref C :: rest := by
    cases q : cd.mro with
    | nil => rw [q] at hm; cases hm
    | cons a r => rw [q] at hm; exact ⟨r, by rw [List.head?_cons] at hm; cases (beq_iff_eq.mp hm); rfl⟩
  unfold binaryOp1
  refine wpAny_bind (I.type.here (wpAny_bind (hb.here (wpAny_bind ((fills_K X hcd hm hs).here ?_)))))
  simp only [beq_self_eq_true, if_true]
  refine wpAny_bind (wpAny_pure ?_)
  simp only [Bool.and_false, Bool.false_eq_true, if_false, Bool.false_and]
  refine wpAny_bind (wpAny_pure ?_)
  simp only [Bool.false_eq_true, if_false]
  refine wpAny_bind (m := tryMethod (.ref x) _ b) ?_
  unfold tryMethod
  refine wpAny_bind (special_fn X I hs (beq_iff_eq.mp hf) (wpAny_mono h (fun v s' hv => ?_) fun _ _ e => e))
  cases v <;> first | exact hv.elim | exact wpAny_pure (wpAny_pure ⟨_, rfl, hv⟩)
theorem binop_of {op : Operator} {a : Value} {Q : Value → Shared → Prop} (h : wpAny (model prog w) A (binaryOp1 op.info.2 a b) (fun r s' => ∃ v, r = some v ∧ Q v s') E s) : wpAny (model prog w) A (binaryOp op a b) Q E s := by
  unfold binaryOp
  refine wpAny_holding (wpAny_bind (wpAny_mono h (fun r s' z => ?_) fun _ _ z => z))
  obtain ⟨v, rfl, q⟩ := z
  exact wpAny_pure q
theorem inplace_of {op : Operator} {Q : Value → Shared → Prop} (I : InstAt s.heap x ox C od) (hno : Looks (model prog w) s.heap (fillsInplaceSlot (.ref C) op.info.2 (op == .Add)) false)
    (h : wpAny (model prog w) A (binaryOp1 op.info.2 (.ref x) b) (fun r s' => ∃ v, r = some v ∧ Q v s') E s) : wpAny (model prog w) A (inplaceOp op (.ref x) b) Q E s := by
  unfold inplaceOp
  refine wpAny_holding (wpAny_bind (I.type.here (wpAny_bind (hno.here ?_))))
  simp only [Bool.false_eq_true, if_false]
  refine wpAny_bind (wpAny_mono h (fun r s' z => ?_) fun _ _ z => z)
  obtain ⟨v, rfl, q⟩ := z
  exact wpAny_pure q
/-- a class with no other own class above it has no slot in place -/
theorem noInplace {M : Model} {h : Heap} {nm : String} {add : Bool} {cd : ClassData} (X : K.In h) (hc : clsIn K C = some cd) (hm : cd.mro = [.ref C, .type "object"]) (hi : findIn K (.ref C) (dunderI nm) = some none)
    (ho : typeLookup (.type "object") (dunderI nm) = pure none) : Looks M h (fillsInplaceSlot (.ref C) nm add) false := by
  intro A Q E s k q
  unfold fillsInplaceSlot
  dsimp only
  refine wpAny_bind ((looks_clsIn X hc).andThen (f := fun cd => pure cd.mro) .now A _ E s k ?_)
  rw [hm, List.anyM_cons]
  refine wpAny_bind (wpAny_bind (looks_findIn X hi A _ E s k ?_))
  dsimp only
  refine wpAny_pure ?_
  simp only [Bool.false_eq_true, if_false]
  rw [List.anyM_cons, ho]
  refine wpAny_bind (wpAny_bind (wpAny_pure ?_))
  dsimp only
  refine wpAny_pure ?_
  simp only [Bool.false_eq_true, if_false, List.anyM_nil]
  exact wpAny_pure q

/-! ### != by an own == -/
theorem ifBound_bi {M : Model} {id : String} {name : Str} {args : List Value} {Q : Option Value → Shared → Prop} (X : K.In s.heap) (I : InstAt s.heap x ox C od) (hs : findIn K (.ref C) name = some (some (.builtin id)))
    (hbd : bindSpecial (.builtin id) (.ref x) = pure (.builtin id, [.ref x])) (h : wpAny M A (call (.builtin id) (.ref x :: args)) (fun v => Q (some v)) E s) : wpAny M A (callSpecialIfBound? (.ref x) name args) Q E s := by
  simp only [callSpecialIfBound?, bindSpecialIfBound?]
  refine wpAny_holding (wpAny_bind (wpAny_bind (wpAny_bind (I.type.here ((looks_findIn X hs).here ?_)))))
  refine wpAny_bind (wpAny_askSetting (wpAny_ite ?_))
  have fin : wpAny M A (call (.builtin id) ([.ref x] ++ args) >>= fun v => pure (some v)) Q E s := wpAny_bind (wpAny_mono h (fun v s' h' => wpAny_pure h') fun _ _ h' => h')
  rw [hbd]
  split
  · exact wpAny_bind (wpAny_pure (wpAny_pure (by exact fin)))
  · exact wpAny_tryCatch (wpAny_bind (wpAny_pure (wpAny_pure (by exact fin))))
/-- x != b, __eq__ the text's own, __ne__ object's -/
theorem ne_own {tb : Value} {Q : Value → Shared → Prop} (hu : A.units + 1 < cLine) (X : K.In s.heap) (I : InstAt s.heap x ox C od) (hb : Looks (model prog w) s.heap (typeOf b) tb) (hn : notFirst K C tb = true)
    (hs : findIn K (.ref C) "__eq__" = some (some (.ref f))) (hf : isFn K (.ref f) = true) (hne : findIn K (.ref C) "__ne__" = some (some (.builtin "object.__ne__"))) (hm : mroIn K C (.type "object") = some true)
    (h : wpAny (model prog w) A.in1 (call (.ref f) [.ref x, b]) (fun v s' => ∃ k, v = .bool k ∧ Q (.bool (!k)) s') E s) : wpAny (model prog w) A (richCompare .NotEq (.ref x) b) Q E s := by
  have hu0 : A.units < cLine := Nat.lt_of_succ_lt hu
  have sub : Looks (model prog w) s.heap (isInstance (.ref x) (.type "object")) true := I.type.andThen (looks_mroIn X hm)
  have one : wpAny (model prog w) A (tryCompare (.ref x) "__ne__" b) (fun r s' => ∃ k, r = some (.bool k) ∧ Q (.bool k) s') E s := by
    unfold tryCompare
    refine wpAny_bind (ifBound_bi X I hne (F.cmp_object.ne.bind (.ref x)) (wpAny_call (codeAny_call_builtin F.cmp_object.ne.plain F.cmpEntry_ne (W.check_slot F.cmpKind_ne F.cmpSplit_ne sub (F.cmpArgs_ne _ _) ?_))))
    unfold Builtin.«object.__ne__»
    refine wpAny_bind (wpAny_of_eq (a := ((Value.ref x : Value), [b])) (by first | rfl | (simp only [slotArgs]; rfl)) ?_)
    dsimp only
    refine wpAny_bind (wpAny_cRoomFor (show A.in1.units < cLine from hu) ?_)
    refine wpAny_bind (ifBound_K X I hs hf (wpAny_mono h (fun v s' hv => ?_) fun _ _ e => e))
    obtain ⟨k, rfl, hq⟩ := hv
    dsimp only
    refine wpAny_bind (wpAny_truthy_bool ?_)
    exact wpAny_pure (wpAny_pure ⟨_, rfl, hq⟩)
  unfold richCompare
  simp only [oneThing_ref]
  refine wpAny_holding (wpAny_bind (wpAny_cRoomFor hu0 ?_))
  refine wpAny_bind (I.type.here (wpAny_bind (hb.here ?_)))
  split
  · rename_i q
    have e : subIn K tb (.ref C) = some false := by
      rcases Bool.or_eq_true_iff.mp hn with e | e
      · rw [beq_iff_eq.mp e] at q; simp at q
      · exact beq_iff_eq.mp e
    refine wpAny_bind ((looks_subIn X e).here ?_)
    simp only [Bool.false_eq_true, if_false]
    refine wpAny_bind (wpAny_mono one (fun r s' z => ?_) fun _ _ e => e)
    obtain ⟨v, rfl, hq⟩ := z
    exact wpAny_pure hq
  · refine wpAny_bind (wpAny_pure ?_)
    simp only [Bool.false_eq_true, if_false]
    refine wpAny_bind (wpAny_mono one (fun r s' z => ?_) fun _ _ e => e)
    obtain ⟨v, rfl, hq⟩ := z
    exact wpAny_pure hq
end
end OX

/-! Own operators as rules over the abstract heap. -/
namespace L2
open PySem PySem.Spec PyProof.Rows
section
variable {X : Cx} {CX : CXT} {k : Nat} {f C : Addr} {fd : FuncData} {ps : List Str} {sp : Sp} {E : XK}
theorem callA {A : Around} {pins : List (Addr × Obj)} {σ : St} {H : Hp} {s : Shared} {Q : VK} {us : List Value} {vs : List V} (F : FnOk X.prog X.w X.K X.mg X.base CX k f fd ps sp) (hr : Room k A) (hfr : A.frames = X.A.frames)
    (hb : Binds X.K fd ps []) (hx : Passes CX X E) (I : Inv X pins σ H s) (r : Vals vs us) (h : sp vs H Q E) : wpAny (model X.prog X.w) A (call (.ref f) us) (EP X pins σ Q) X.xe s := by
  have hl : us.length = ps.length := by rw [← r.length]; exact F.len _ _ _ _ h
  have e0 : Env0 X.prog X.w X.K X.mg X.base A X.stack s H := by
    have e := I.env0
    exact ⟨by rw [hfr]; exact e.frames, e.mod, e.bs, e.bsz, e.funs, e.frf, e.hok, e.bare⟩
  refine wpAny_call (codeAny_mono (F.run A X.stack s H ⟨us, []⟩ us vs Q E hr e0 (by have := hb s us I.kIn (by simpa using hl); simpa using this) r h) fun r s' hq => ?_)
  cases r with
  | error e => exact hx pins σ H s e s' I hq
  | ok fl =>
    cases fl with
    | ret u => exact I.after hq
    | next => exact False.elim hq
    | brk => exact False.elim hq
    | cont => exact False.elim hq
theorem relV_ni {v : V} {u : Value} (r : RelV v u) {P : Value → Shared → Prop} {s : Shared} (h : P u s) : PySem.W.CmpBack P u s := by
  cases v with
  | non => cases (show u = Value.none from r); exact h
  | bl b => cases (show u = Value.bool b from r); exact h
  | int i => obtain ⟨t, e⟩ := (show ∃ t, u = Value.int i t from r); subst e; exact h
  | str x => obtain ⟨t, e⟩ := (show ∃ t, u = Value.str x t from r); subst e; exact h
  | byt x => obtain ⟨t, e⟩ := (show ∃ t, u = Value.bytes x t from r); subst e; exact h
  | flt x => obtain ⟨t, e⟩ := (show ∃ t, u = Value.float x t from r); subst e; exact h
  | ref a => cases (show u = Value.ref a from r); exact h
  | ty n => cases (show u = Value.type n from r); exact h

/-- what the written part says of an own class -/
structure OwnC (K : PySem.W.Frag) (C : Addr) : Prop where
  cl : Cls K C
  ha : PySem.W.findIn K (.ref C) "__class__" = some (some (.builtin "object.__class__"))
  hn : PySem.W.specialIn K (.builtin "object.__class__") "__get__" = some (some (.builtin "getset_descriptor.__get__"))
  htk : PySem.W.takesIn K (.builtin "object.__class__") = some true
  hm : PySem.W.mroIn K C (.type "object") = some true
theorem OwnC.ty {K : PySem.W.Frag} (c : OwnC K C) {H : Hp} {a dx : Addr} {fs : List (Str × V)} (e : H a = some (.ins C dx fs)) : TyX K H (.ref a) (.ref C) := .base (.ins e c.cl c.ha c.hn c.htk c.hm)
/-- an operator of the text's own for a left operand of the class at C -/
structure OpM (K : PySem.W.Frag) (op : Operator) (C f : Addr) : Prop where
  self : PySem.W.selfFirst K C = true
  hs : PySem.W.findIn K (.ref C) (PySem.dunder op.info.2) = some (some (.ref f))
  hf : PySem.W.isFn K (.ref f) = true
  hr : PySem.W.findIn K (.ref C) (dunderR op.info.2) = some none
/-- the right operand's type -/
inductive OpT (K : PySem.W.Frag) (op : Operator) (C : Addr) : Value → Prop where
  | own : OpT K op C (.ref C)
  | ty {T : String} {r : Bool} {o : Option Value} (fill : fillsNumberSlot (.type T) op.info.2 = pure r) (sub : PySem.W.subIn K (.type T) (.ref C) = some false) (hT : typeLookup (.type T) (dunderR op.info.2) = pure o) : OpT K op C (.type T)
def rOwn (K : PySem.W.Frag) (op : Operator) (C : Addr) (sp : Sp) (E : XK) : R2 := fun x y H Q => ∃ a dx fs t, x = .ref a ∧ H a = some (.ins C dx fs) ∧ TyX K H y t ∧ OpT K op C t ∧ sp [.ref a, y] H Q E
theorem typeOf_of {pins : List (Addr × Obj)} {σ : St} {H : Hp} {s : Shared} {y : V} {u t : Value} (I : Inv X pins σ H s) (ry : RelV y u) (ty : TyX X.K H y t) : PySem.W.Looks (model X.prog X.w) s.heap (typeOf u) t := by
  obtain ⟨P, Z, p, _⟩ := kit_of I ry ty
  exact Z.ty _ _ I.kIn p
theorem op_own {op : Operator} (M : OpM X.K op C f) (F : FnOk X.prog X.w X.K X.mg X.base CX k f fd ps sp) (hr : Room k X.A) (hb : Binds X.K fd ps []) (hx : Passes CX X E) : OpR X (binaryOp op) (rOwn X.K op C sp E) := by
  intro pins s σ H x y v u Q I rx ry h
  obtain ⟨a, dx, fs, t, rfl, ha, ty, ot, hq⟩ := h
  cases rx
  obtain ⟨mA, J, _⟩ := ins_get I.hok ha
  obtain ⟨od, J, _⟩ := J.look
  have hbt := typeOf_of I ry ty
  have hc : wpAny (model X.prog X.w) X.A (call (.ref f) [.ref a, u]) (PySem.W.CmpBack (EP X pins σ Q)) X.xe s :=
    wpAny_mono (callA (vs := [.ref a, y]) F hr rfl hb hx I (.cons rfl (.cons ry .nil)) hq) (fun z s' hz => by
      obtain ⟨v', H', I', rv, q⟩ := id hz
      exact relV_ni rv hz) fun _ _ z => z
  refine OX.binop_of ?_
  cases ot with
  | own => exact OX.binop1_C I.kIn J hbt M.self M.hs M.hf hc
  | ty fill sub hT => exact OX.binop1_T I.kIn J hbt M.self M.hs M.hf M.hr fill sub hT hc
/-- no method of the class works in place -/
structure NoIp (K : PySem.W.Frag) (op : Operator) (C : Addr) : Prop where
  cd : ∃ cd, PySem.W.clsIn K C = some cd ∧ cd.mro = [.ref C, .type "object"]
  hi : PySem.W.findIn K (.ref C) (dunderI op.info.2) = some none
  ho : typeLookup (.type "object") (dunderI op.info.2) = pure none
theorem ip_own {op : Operator} (M : OpM X.K op C f) (N : NoIp X.K op C) (F : FnOk X.prog X.w X.K X.mg X.base CX k f fd ps sp) (hr : Room k X.A) (hb : Binds X.K fd ps []) (hx : Passes CX X E) : PIp X op (rOwn X.K op C sp E) := by
  intro pins s σ H x y v u Q I rx ry h
  obtain ⟨a, dx, fs, t, rfl, ha, ty, ot, hq⟩ := h
  cases rx
  obtain ⟨mA, J, _⟩ := ins_get I.hok ha
  obtain ⟨od, J, _⟩ := J.look
  have hbt := typeOf_of I ry ty
  have hc : wpAny (model X.prog X.w) X.A (call (.ref f) [.ref a, u]) (PySem.W.CmpBack (EP X pins σ Q)) X.xe s :=
    wpAny_mono (callA (vs := [.ref a, y]) F hr rfl hb hx I (.cons rfl (.cons ry .nil)) hq) (fun z s' hz => by
      obtain ⟨v', H', I', rv, q⟩ := id hz
      exact relV_ni rv hz) fun _ _ z => z
  obtain ⟨cd, hcd, hm⟩ := N.cd
  refine OX.inplace_of J (OX.noInplace I.kIn hcd hm N.hi N.ho) ?_
  cases ot with
  | own => exact OX.binop1_C I.kIn J hbt M.self M.hs M.hf hc
  | ty fill sub hT => exact OX.binop1_T I.kIn J hbt M.self M.hs M.hf M.hr fill sub hT hc

/-! ### == and != by an own == -/
structure EqM (K : PySem.W.Frag) (C f : Addr) : Prop where
  hs : PySem.W.findIn K (.ref C) "__eq__" = some (some (.ref f))
  hf : PySem.W.isFn K (.ref f) = true
  hne : PySem.W.findIn K (.ref C) "__ne__" = some (some (.builtin "object.__ne__"))
  hm : PySem.W.mroIn K C (.type "object") = some true
def rEqO (K : PySem.W.Frag) (C : Addr) (sp : Sp) (neg : Bool) : R2 := fun x y H Q => ∃ a dx fs t, x = .ref a ∧ H a = some (.ins C dx fs) ∧ TyX K H y t ∧ PySem.W.notFirst K C t = true ∧
  sp [.ref a, y] H (fun v H' => ∃ b, v = .bl b ∧ Q (.bl (if neg then !b else b)) H') (fun _ _ _ => False)
theorem op_eqO (M : EqM X.K C f) (F : FnOk X.prog X.w X.K X.mg X.base CX k f fd ps sp) (hr : Room (k + 1) X.A) (hb : Binds X.K fd ps []) (hx : Passes CX X (fun _ _ _ => False)) : OpR X (compareOp .Eq) (rEqO X.K C sp false) := by
  intro pins s σ H x y v u Q I rx ry h
  obtain ⟨a, dx, fs, t, rfl, ha, ty, nf, hq⟩ := h
  cases rx
  obtain ⟨mA, J, _⟩ := ins_get I.hok ha
  obtain ⟨od, J, _⟩ := J.look
  have hbt := typeOf_of I ry ty
  obtain ⟨m, hF⟩ := I.fr
  show wpAny (model X.prog X.w) X.A (richCompare .Eq (.ref a) u) (EP X pins σ Q) X.xe s
  refine PySem.W.cmp_K (op := .Eq) hr.units0 hF I.ok.mod.kin J hbt nf M.hs M.hf ?_
  refine wpAny_mono (callA (vs := [.ref a, y]) F (hr.mono (Nat.le_succ _)) rfl hb hx I (.cons rfl (.cons ry .nil)) hq) (fun z s' hz => ?_) fun _ _ z => z
  obtain ⟨v', H', I', rv, b, e, q⟩ := hz
  subst e
  cases (show z = Value.bool b from rv)
  exact ⟨.bl b, H', I', rfl, q⟩
theorem op_neO (M : EqM X.K C f) (F : FnOk X.prog X.w X.K X.mg X.base CX k f fd ps sp) (hr : Room (k + 1) X.A) (hb : Binds X.K fd ps []) (hx : Passes CX X (fun _ _ _ => False)) : OpR X (compareOp .NotEq) (rEqO X.K C sp true) := by
  intro pins s σ H x y v u Q I rx ry h
  obtain ⟨a, dx, fs, t, rfl, ha, ty, nf, hq⟩ := h
  cases rx
  obtain ⟨mA, J, _⟩ := ins_get I.hok ha
  obtain ⟨od, J, _⟩ := J.look
  have hbt := typeOf_of I ry ty
  show wpAny (model X.prog X.w) X.A (richCompare .NotEq (.ref a) u) (EP X pins σ Q) X.xe s
  have hu := hr.un
  refine OX.ne_own (by omega) I.kIn J hbt nf M.hs M.hf M.hne M.hm ?_
  refine wpAny_mono (callA (A := X.A.in1) (vs := [.ref a, y]) F hr.in1 rfl hb hx I (.cons rfl (.cons ry .nil)) hq) (fun z s' hz => ?_) fun _ _ z => z
  obtain ⟨v', H', I', rv, b, e, q⟩ := hz
  subst e
  cases (show z = Value.bool b from rv)
  exact ⟨b, rfl, .bl (!b), H', I', rfl, q⟩
end
end L2

/-! A caught error that is kept behind its suite. -/
namespace L2
open PySem PySem.Spec PyProof.Rows
/-- an error of the class cls that was caught, its own dict at d -/
def exh (e : Addr) (cls : Value) (d : Option Addr) : HO := .ext fun h => ∃ oe : Obj, h.get? e = some oe ∧ Zc cls d oe ∧ ∃ vs, oe.data = .fields vs
theorem exh_ok {P : Program} {w : World} {H : Hp} {h : Heap} {e : Addr} {cls : Value} {d : Option Addr} {oe : Obj} (he : h.get? e = some oe) (hz : Zc cls d oe) (hf : ∃ vs, oe.data = .fields vs) : ObjOk P w H h e (exh e cls d) :=
  ⟨⟨oe, he, hz, hf⟩, ⟨oe, he⟩, fun h1 h2 z k => by
    obtain ⟨o, q, r⟩ := z
    exact ⟨o, k _ q, r⟩⟩
theorem exh_at {P : Program} {w : World} {H : Hp} {h : Heap} {e : Addr} {cls : Value} {d : Option Addr} (ok : HOk P w H h) (q : H e = some (exh e cls d)) : ∃ oe : Obj, h.get? e = some oe ∧ Zc cls d oe ∧ ∃ vs, oe.data = .fields vs := by
  have z : ObjOk P w H h e (.ext fun h => ∃ oe : Obj, h.get? e = some oe ∧ Zc cls d oe ∧ ∃ vs, oe.data = .fields vs) := ok e _ q
  exact z.1
section
variable {X : Cx} {pins : List (Addr × Obj)} {σ : St} {H : Hp} {s : Shared}
/-- an object that no one knew is known from now on -/
theorem Inv.track {a : Addr} {oe : Obj} {vs : Array Value} {cls : Value} {d : Option Addr} (I : Inv X ((a, oe) :: pins) σ H s) (hd : oe.data = .fields vs) (hz : Zc cls d oe) (n0 : X.s_0.heap.get? a = none) (np : ∀ p ∈ X.pn ++ pins, p.1 ≠ a) :
    Inv X pins σ (upd H a (exh a cls d)) s := by
  obtain ⟨ea, na, nL, nF, _⟩ := I.pin (a, oe) (List.mem_append_right _ List.mem_cons_self)
  have old : ∀ {b o}, X.s_0.heap.get? b = some o → b ≠ a := fun {b o} e z => by rw [z, n0] at e; cases e
  have kn : ∀ {b u}, H b = some u → b ≠ a := fun {b u} e => ne_of_none e na
  refine ⟨I.ok, I.os, I.bare, ⟨I.base.keep, I.base.slot, fun b o e n hx => ?_, I.base.there, fun b xs e => ?_, fun b o u e => ?_, fun b ps e => ?_⟩, I.loc, I.cell, ?_, fun y c e => ?_, fun p hp => ?_, fun b u e => ?_, I.len⟩
  · rw [upd_ne (old e)]
    exact I.base.free b o e n hx
  · have q := I.base.tups b xs e
    rw [upd_ne (kn q)]
    exact q
  · have q := I.base.frzs b o u e
    rw [upd_ne (kn q)]
    exact q
  · obtain ⟨m, q⟩ := I.base.tbls b ps e
    exact ⟨m, by rw [upd_ne (kn q)]; exact q⟩
  · rw [upd_ne (Ne.symm nL)]
    exact I.free
  · obtain ⟨v, oc, hoc, hdc⟩ := I.cell y c e
    have hca : c ≠ a := fun z => by
      rw [z] at hoc
      have e2 : some oe = some oc := ea.symm.trans hoc
      rw [← Option.some.inj e2, hd] at hdc
      cases hdc
    rw [upd_ne hca]
    exact I.freeC y c e
  · obtain ⟨e, n, r⟩ := I.pin p (by
      rcases List.mem_append.mp hp with h | h
      · exact List.mem_append_left _ h
      · exact List.mem_append_right _ (List.mem_cons_of_mem _ h))
    exact ⟨e, by rw [upd_ne (np p hp)]; exact n, r⟩
  · by_cases hb : b = a
    · rw [hb, upd_same] at e
      cases e
      rw [hb]
      exact exh_ok ea hz ⟨vs, hd⟩
    · rw [upd_ne hb] at e
      exact (I.hok b u e).stay (fun c w' _ q => q) (fun c q => by rw [upd_ne (kn q)]; exact q) fun c xs q => by rw [upd_ne (kn q)]; exact q
theorem Inv.unsuiteK {a : Addr} {q : Addr × Obj} (I : Inv (X.suite a (q :: (X.pn ++ pins))) [] σ H s) (ok : X.Ok) : Inv X (q :: pins) σ H s :=
  ⟨ok, I.os, I.bare, I.base, I.loc, I.cell, I.free, I.freeC, fun p hp => I.pin p (List.mem_append_left _ (by
    rcases List.mem_append.mp hp with h | h
    · exact List.mem_cons_of_mem _ (List.mem_append_left _ h)
    · rcases List.mem_cons.mp h with h | h
      · rw [h]; exact List.mem_cons_self
      · exact List.mem_cons_of_mem _ (List.mem_append_right _ h))), I.hok, I.len⟩
end
/-- the wish of a body whose errors the clause takes, all of them, and keeps -/
def wKeep (K : PySem.W.Frag) (c : Value) (i : Nat) (ts : Addr → Value → Option Addr → TS) (D : Ends) : WX := fun cls d σ H => PySem.W.exmOne K cls c = some true ∧ ∀ a, H a = none →
  ts a cls d { nx := fun σ' H' => D.nx (σ'.set i none) (upd H' a (exh a cls d)), rt := fun v H' => D.rt v (upd H' a (exh a cls d)), bk := fun σ' H' => D.bk (σ'.set i none) (upd H' a (exh a cls d)), ct := fun σ' H' => D.ct (σ'.set i none) (upd H' a (exh a cls d)) } (σ.set i (some (.ref a))) H
section
variable {X : Cx} {x n : Str} {c : Value} {i : Nat} {body suite : List Stmt} {b₀ : Stmt} {np pos pos' : Pos} {tb : WX → TS} {ts : Addr → Value → Option Addr → TS}
theorem ps_try_keep (hex : X.ex = []) (hs : X.stack = X.env :: X.outer) (hf : X.env.frame = some X.env.locals) (hN : X.N.Nodup) (hi : X.N[i]? = some n) (hln : X.env.kindOf n = some .local) (hc : Names X x c)
    (hb : ∀ (W : WX) (pn : List (Addr × Obj)) (xe : Value → Shared → Prop), Takes (X.tr pn xe) W → PassesOwn (model X.prog X.w) X.A X.env xe → PSs (X.tr pn xe) body (tb W))
    (hsu : ∀ (a : Addr) (oe : Obj) (cls : Value) (d : Option Addr) (pn : List (Addr × Obj)), Zc cls d oe → (∃ vs, oe.data = .fields vs) → PSs (X.suite a ((a, oe) :: pn)) (b₀ :: suite) (ts a cls d)) :
    PS X (.Try body [.ExceptHandler (some (.Name x np)) (some n) (b₀ :: suite) pos'] [] [] pos) (fun D σ H => tb (wKeep X.K c i ts D) D σ H) := by
  refine ⟨fun pins s σ H D I h => ?_⟩
  have ok := I.ok
  have frm : X.A.frames = some (X.env :: X.outer) := by rw [ok.frames, hs]
  refine wpAny_Try_except ?_
  refine wpAny_mono ((hb (wKeep X.K c i ts D) (X.pn ++ pins) (fun e s₁ => wpAny (model X.prog X.w) X.A (noteFrame e X.env) (fun _ s₂ => wpAny (model X.prog X.w) X.A (setFlight e none)
    (fun _ s₃ => wpAny (model X.prog X.w) X.A (handleBy e X.env [.ExceptHandler (some (.Name x np)) (some n) (b₀ :: suite) pos']) (SP X pins D) X.xe s₃) X.xe s₂) X.xe s₁) (fun u s' xx => ?_) PassesOwn.looking).run [] s σ H D (I.toTry _) h) (fun f s1 hsp => ?_) (fun _ _ z => z)
  · obtain ⟨a, B, sI, pins', σ', H', cls, d, rfl, J', nb, up, sky, na, os, ag, hyes1, hyes⟩ := xx
    have J : Inv X pins σ' H' sI := J'.ofTry ok
    show wpAny (model X.prog X.w) X.A (noteFrame (.ref a) X.env) _ _ _
    refine Sky.land Zc.steady frm hf (show Sky B (X.env :: X.outer) a (Zc cls d) X.env.locals s'.heap by rw [← hs]; exact sky) fun h3 fl3 up3 => ?_
    have J3 : Inv X pins σ' H' { s' with heap := h3 } := J.landed nb fl3.1 (up.trans up3) os ag
    obtain ⟨oe3, vs3, he3, hz3, hd3⟩ := fl3.there
    have nfr : a ∉ frs (X.env :: X.outer) := fun hm => by
      obtain ⟨_, o', e', hnf⟩ := fl3.2.2.1.mem hm
      rw [he3] at e'
      cases e'
      exact hnf _ hd3
    have nL : a ≠ X.env.locals := fun z => nfr (List.mem_filterMap.mpr ⟨X.env, List.mem_cons_self, by rw [hf, z]⟩)
    have nF : a ∉ X.fs := fun hm => by
      obtain ⟨e, he, q⟩ := List.mem_filterMap.mp hm
      exact nfr (List.mem_filterMap.mpr ⟨e, List.mem_cons_of_mem _ he, q⟩)
    have inB : ∀ {b : Addr} {o : Obj}, sI.heap.get? b = some o → b ∉ frs X.stack → b ≠ a := fun {b o} e hb z => by
      have q := nb b o e hb
      rw [z, fl3.2.1] at q
      cases q
    have n0 : X.s_0.heap.get? a = none := by
      cases e : X.s_0.heap.get? a with
      | none => rfl
      | some o =>
        obtain ⟨o', e'⟩ := J.base.there a o e (by rw [hex]; exact fun z => nomatch z)
        exact absurd rfl (inB e' (by rw [hs]; exact nfr))
    have npin : ∀ p ∈ X.pn ++ pins, p.1 ≠ a := fun p hp => by
      obtain ⟨e, _, n1, n2, _⟩ := J.pin p hp
      exact inB e fun hm => (List.mem_cons.mp (J.stkSub _ hm)).elim n1 n2
    refine wpAny_handleBy_cons (codeAny_handlers_test ?_) (by intro q; cases q)
    have LT : PySem.W.Looks (model X.prog X.w) h3 (typeOf (.ref a)) cls := fun A Q E s k q => wpAny_typeOf_ref (k _ _ he3) (by rw [hz3.1]; exact q)
    have S3 := J3.suite he3 hd3 na nL nF
    have test : ∀ {Q : Value → Shared → Prop} {E : Value → Shared → Prop}, Q c { s' with heap := h3 } → wpAny (model X.prog X.w) (X.A.mark (some (.ref a))) (eval (.Name x np) X.env) Q E { s' with heap := h3 } := fun {Q E} q => by
      obtain ⟨g1, g2, g3 | ⟨g3, g4, g5⟩⟩ := hc
      · exact ld_glob (X := X.suite a ((a, oe3) :: (X.pn ++ pins))) S3 g1 g3 q g2
      · exact ld_blt (X := X.suite a ((a, oe3) :: (X.pn ++ pins))) S3 g1 g3 g4 q g5 g2
    refine test ((PySem.W.exm_one (M := model X.prog X.w) (J3.kIn) LT hyes1).here ?_)
    refine codeAny_handlers_suite_as ?_
    refine HandSPX.lands_againZ fl3 fun h4 fl4 up4 => ?_
    have J4 : Inv X pins σ' H' { s' with heap := h4 } := J.landed nb fl4.1 ((up.trans up3).trans up4) os ag
    obtain ⟨oe4, vs4, he4, hz4, hd4⟩ := fl4.there
    refine store_ok (X := X.suite a ((a, oe4) :: (X.pn ++ pins))) (v := .ref a) (J4.suite he4 hd4 na nL nF) hN hi (.inl hln) rfl (fun s5 S5 => ?_) (.inr hln)
    refine wpAny_mono ((hsu a oe4 cls d (X.pn ++ pins) hz4 ⟨_, hd4⟩).run [] s5 _ H' _ S5 (hyes a na)) (fun f s6 hsp => ?_) (fun _ _ z => False.elim z)
    have fin : ∀ {σ6 : St} {H6 : Hp} {Q : Shared → Prop}, Inv (X.suite a ((a, oe4) :: (X.pn ++ pins))) [] σ6 H6 s6 → (∀ s7, Inv X pins (σ6.set i none) (upd H6 a (exh a cls d)) s7 → Q s7) →
        wpAny (model X.prog X.w) X.A (do bindName X.env n .none; unbindBehindTheSuite X.env n pos') (fun _ s7 => Q s7) X.xe s6 := fun {σ6 H6 Q} S6 hq => gone_ok (S6.unsuiteK ok) hN hi hln fun s7 J7 => hq s7 (J7.track hd4 hz4 n0 npin)
    cases f with
    | ret u =>
      obtain ⟨v6, σ6, H6, S6, r6, q6⟩ := hsp
      exact fin S6 fun s7 J7 => ⟨_, _, _, J7, r6, q6⟩
    | next =>
      obtain ⟨σ6, H6, S6, q6⟩ := hsp
      exact fin S6 fun s7 J7 => ⟨_, _, J7, q6⟩
    | cont =>
      obtain ⟨σ6, H6, S6, q6⟩ := hsp
      exact fin S6 fun s7 J7 => ⟨_, _, J7, q6⟩
    | brk =>
      obtain ⟨σ6, H6, S6, q6⟩ := hsp
      exact fin S6 fun s7 J7 => ⟨_, _, J7, q6⟩
  · cases f with
    | ret u =>
      obtain ⟨v, σ', H', J', r, q⟩ := hsp
      exact ⟨v, σ', H', J'.ofTry ok, r, q⟩
    | next =>
      obtain ⟨σ', H', J', q⟩ := hsp
      exact wpAny_execs_nil ⟨σ', H', J'.ofTry ok, q⟩
    | cont =>
      obtain ⟨σ', H', J', q⟩ := hsp
      exact ⟨σ', H', J'.ofTry ok, q⟩
    | brk =>
      obtain ⟨σ', H', J', q⟩ := hsp
      exact ⟨σ', H', J'.ofTry ok, q⟩
end
end L2
/-! ### isinstance and fields of such an error -/
namespace PySem.W
open PySem PySem.Calls PyProof.Rows Builtin Builtin.ObjectAttr
section
variable {prog : Program} {w : World} {A : Around} {E : Value → Shared → Prop} {s : Shared} {K : Frag} {x D : Addr} {ox : Obj} {od : Option Obj}
theorem kxc_class {Q : Option Value → Shared → Prop} (C : L2.ExcC K D) (hf : findObj K D od "__class__" = some (.bind (.builtin "getset_descriptor.__get__") (.builtin "object.__class__")))
    (X : K.In s.heap) (I : InstAt s.heap x ox D od) (h : Q (some (.ref D)) { s with toks := s.toks + 1 }) : wpAny (model prog w) A (getAttr? (.ref x) "__class__") Q E s := by
  obtain ⟨hp, g, dr, t, os⟩ := s
  have LT := I.type (M := model prog w)
  have LA := looks_findIn (M := model prog w) X C.hg
  have LB := looks_findIn (M := model prog w) X C.hk
  have LF := looks_find (M := model prog w) X I hf
  have isB : Looks (model prog w) hp (isInstance (.ref x) (.type "BaseException")) true := LT.andThen (looks_subIn X C.hs)
  have q0 : (false && onTheHeap (Value.builtin "BaseException.__getattribute__")) = false := rfl
  have q2 : (Value.builtin "BaseException.__getattribute__" == Value.builtin "object.__getattribute__") = false := by decide +kernel
  have q1 : (onTheHeap (Value.ref D) && Value.builtin "BaseException.__getattribute__" == Value.builtin "object.__getattribute__") = false := by rw [q2]; rfl
  unfold getAttr? getAttrBy? getAttrBy
  refine wpAny_bind (wpAny_mkText (wpAny_bind (wpAny_attempt (wpAny_holding (wpAny_bind (LT.at (wpAny_bind (LA.at ?_))))))))
  show wpAny _ _ (if (onTheHeap (Value.ref D) && Value.builtin "BaseException.__getattribute__" == Value.builtin "object.__getattribute__") = true then _ else _) _ _ _
  rw [q1, if_neg Bool.false_ne_true]
  unfold getAttrByItsOwn hookBefore
  refine wpAny_bind ?_
  rw [if_pos (show onTheHeap (Value.ref D) = true from rfl)]
  refine LB.at (wpAny_bind (wpAny_attempt (wpAny_holding ?_)))
  unfold callGetattribute
  rw [q0, if_neg Bool.false_ne_true]
  unfold boundAndCalled
  rw [PySem.F.excAttr_ValueError.ga.bind (.ref x)]
  refine wpAny_bind (wpAny_pure ?_)
  show wpAny _ _ (call (.builtin "BaseException.__getattribute__") [.ref x, .str "__class__" t]) _ _ _
  refine wpAny_call (codeAny_call_builtin PySem.F.excAttr_ValueError.ga.plain PySem.F.entry_bexc_ga ?_)
  refine @check_slot (model prog w) _ _ ⟨hp, g, dr, t + 1, os⟩ "BaseException.__getattribute__" "BaseException" "__getattribute__" (.ref x) [.str "__class__" t] [] _ (by decide +kernel) (by decide +kernel) isB (PySem.F.args_bexc_ga (.ref x) (.str "__class__" t)) ?_
  unfold Builtin.«object.__getattribute__»
  refine wpAny_bind (wpAny_of_eq (a := ((Value.ref x : Value), [Value.str "__class__" t])) (by first | rfl | (simp only [slotArgs]; rfl)) (wpAny_bind (wpAny_pure (wpAny_bind (LT.at (wpAny_bind (LF.at ?_)))))))
  show wpAny _ _ (holding [Value.builtin "object.__class__"] (call (.builtin "getset_descriptor.__get__") [.builtin "object.__class__", .ref x, .ref D]) >>= ret) _ _ _
  refine wpAny_bind (wpAny_holding (wpAny_call (class_get (s := ⟨hp, g, dr, t + 1, os⟩) (ox := ox) (od := od) X I C.hm (wpAny_pure ?_))))
  show wpAny _ _ (handedOut (.ref D)) _ _ _
  rw [handedOut_of (v := .ref D) rfl]
  first
    | exact wpAny_pure (wpAny_pure h)
    | exact wpAny_pure h
    | exact wpAny_pure (wpAny_bind (wpAny_pure (wpAny_pure h)))
theorem kxc_kit (C : L2.ExcC K D) (hf : findObj K D od "__class__" = some (.bind (.builtin "getset_descriptor.__get__") (.builtin "object.__class__"))) : KitX K (.ref x) (.ref D) (fun h => InstAt h x ox D od) where
  ty := fun _ _ _ I => I.type
  it := fun _ _ X _ => by
    obtain ⟨cd0, hc0, _⟩ := any_some C.hd
    unfold clsIn at hc0
    split at hc0
    · rename_i _ _ _ _ ho
      intro A' Q' E' s' k q
      unfold isType loadHead
      exact wpAny_bind (wpAny_loadPart (k _ _ (X _ _ ho)) (wpAny_pure q))
    · cases hc0
  ne := fun h tp dd its n sl X htp => by
    obtain ⟨cd0, hc0, _⟩ := any_some C.hd
    refine Bool.eq_false_iff.mpr fun q => ?_
    have e : D = tp := Value.ref.inj (beq_iff_eq.mp q)
    subst e
    unfold clsIn at hc0
    split at hc0
    · rename_i _ _ _ _ ho
      have z := (X _ _ ho).symm.trans htp
      cases z
    · cases hc0
  ca := fun X I k => kxc_class C hf X I k
end
end PySem.W
namespace L2
open PySem PySem.Spec PyProof.Rows
section
variable {X : Cx} {pins : List (Addr × Obj)} {σ : St} {H : Hp} {s : Shared}
theorem exh_inst {K : PySem.W.Frag} {a D : Addr} {d : Option Addr} {fs : List (Str × V)} (I : Inv X pins σ H s) (ea : H a = some (exh a (.ref D) d)) (ed : ∀ dd, d = some dd → H dd = some (.xd fs)) :
    ∃ (oe : Obj) (od : Option Obj), PySem.W.InstAt s.heap a oe D od ∧ (d.isSome = od.isSome) ∧ ∀ name, d.isSome = true → ∃ m : Str → Option Value, PySem.W.lookIn name (od.getD oe) = some (m name) ∧ ∀ f, RelO (fs.lookup f) (m f) := by
  obtain ⟨oe, hoe, ⟨z1, z2⟩, vs, hd⟩ := exh_at I.hok ea
  have nc : PySem.W.notCls oe = true := by unfold PySem.W.notCls; rw [hd] <;> rfl
  cases d with
  | none => exact ⟨oe, none, ⟨hoe, z1, nc, by rw [z2]; exact True.intro⟩, rfl, fun _ z => nomatch z⟩
  | some dd =>
    have hx : ObjOk X.prog X.w H s.heap dd (.xd fs) := I.hok dd _ (ed dd rfl)
    obtain ⟨mA, hns, hr⟩ := hx
    obtain ⟨od, ho, hl⟩ := lookIn_ns hns
    exact ⟨oe, some od, ⟨hoe, z1, nc, by rw [z2]; exact ho⟩, rfl, fun name _ => ⟨mA, hl name, hr⟩⟩
end
/-- isinstance(e, c), e an error that was caught and kept -/
def rIsK (K : PySem.W.Frag) : List V → Hp → VK → Prop := fun xs H Q => ∃ (a D dd : Addr) (fs : List (Str × V)) (c : V) (cv : Value) (b : Bool), xs = [.ref a, c] ∧ ClsV c cv ∧ H a = some (exh a (.ref D) (some dd)) ∧ H dd = some (.xd fs) ∧ ExcC K D ∧ PySem.W.kitOne K (.ref D) cv = some b ∧ Q (.bl b) H
theorem call_isK {X : Cx} : CallR X (.builtin "isinstance") (rIsK X.K) := by
  intro pins s σ H xs us Q I r h
  obtain ⟨a, D, dd, fs, c, cv, b, rfl, hcv, ea, ed, C, e, q⟩ := h
  obtain ⟨u1, u2, rfl, r1, r2⟩ := vals2 r
  cases (show u1 = Value.ref a from r1)
  have ec := hcv.eq r2
  subst ec
  obtain ⟨oe, od, J, hd, _⟩ := exh_inst (K := X.K) I ea (fun d' e' => by cases e'; exact ed)
  cases od with
  | none => cases hd
  | some od =>
    have hf := PySem.W.findObj_data (K := X.K) (C := D) (od := od) (name := "__class__") (by obtain ⟨cd, hc, _⟩ := PySem.W.any_some C.hd; rw [hc]; rfl) C.ha C.hn C.ht
    exact PySem.W.kia_one (PySem.W.kxc_kit C hf) I.kIn J e (fun z => nomatch z) fun tk => ⟨.bl b, H, I.tok tk, rfl, q⟩
/-- e.f, e such an error -/
def tXk (K : PySem.W.Frag) (te : TE) (f : Str) : TE := fun σ H Q => te σ H fun x H1 => ∃ (a C dd : Addr) (fs : List (Str × V)) (v : V), x = .ref a ∧ H1 a = some (exh a (.ref C) (some dd)) ∧ H1 dd = some (.xd fs) ∧ XfC K C ∧ PySem.W.findIn K (.ref C) f = some none ∧ fs.lookup f = some v ∧ Q v H1
theorem pe_xk {X : Cx} {e : Expr} {te : TE} {pos : Pos} {n : Str} (he : PE X e te) (hb : attributeBase e n X.env (eval e X.env) = eval e X.env := by rfl) : PE X (.Attribute e n pos) (tXk X.K te n) := by
  refine ⟨fun pins s σ H Q I h => attr_of hb (thn (he.run pins s σ H _ I h) fun u s1 hh => ?_)⟩
  obtain ⟨x, H1, I1, rx, a, C, dd, fs, v, ex, ea, ed, T, hno, l, q⟩ := hh
  subst ex
  obtain rfl : u = Value.ref a := rx
  obtain ⟨oe, od, J, hd, hl⟩ := exh_inst (K := X.K) I1 ea (fun d' e' => by cases e'; exact ed)
  cases od with
  | none => cases hd
  | some od =>
    obtain ⟨m, h1, h2⟩ := hl n rfl
    obtain ⟨u, hu, ru⟩ := RelO.some_of (v := v) (o := m n) (by rw [← l]; exact h2 n)
    exact HandSPX.exc_get I1.kIn J T.ga T.gg T.exC (PySem.W.findObj_own T.hdC hno rfl (by rw [← hu]; exact h1)) (handed_of ru) ⟨v, H1, I1.tok _, ru, q⟩
end L2

/-! repr of data: it asks which reprs are under way; a def's promise where none is. -/
namespace L2
open PySem PySem.Spec PyProof.Rows
/-- a promise that holds where no repr is under way -/
structure FnG (P : Program) (w : World) (K : PySem.W.Frag) (mg : Str → Option Value) (base : Heap) (CX : CXT) (k : Nat) (f : Addr) (fd : FuncData) (ps : List Str) (sp : Sp) : Prop where
  len : ∀ vs H Q E, sp vs H Q E → vs.length = ps.length
  run : ∀ (A : Around) (outer : List Env) (s : Shared) (H : Hp) (args : Args) (us : List Value) (vs : List V) (Q : VK) (E : XK), Room k A → A.guards = some [] → Env0 P w K mg base A outer s H → BindsTo s fd args (ps.zip us) → Vals vs us → sp vs H Q E →
    codeAny (model P w) A (.call (.ref f) args) (CR CX outer P w H s Q E) s
theorem FnOk.g {P : Program} {w : World} {K : PySem.W.Frag} {mg : Str → Option Value} {base : Heap} {CX : CXT} {k : Nat} {f : Addr} {fd : FuncData} {ps : List Str} {sp : Sp} (F : FnOk P w K mg base CX k f fd ps sp) : FnG P w K mg base CX k f fd ps sp :=
  ⟨F.len, fun A outer s H args us vs Q E hr _ => F.run A outer s H args us vs Q E hr⟩
section
variable {P : Program} {w : World} {K : PySem.W.Frag} {mg : Str → Option Value} {base : Heap}
theorem Fun.okG {x qual : Str} {st : Stmt} {f : Addr} {fd : FuncData} {N ps : List Str} {k : Nat} {sp : Sp} (F : Fun K x qual st f fd) (S : FnScope N ps (defScope st)) (len : ∀ vs H Q E, sp vs H Q E → vs.length = ps.length)
    (hbody : ∀ (cdv : Value) (A : Around) (outer : List Env) (s : Shared) (H : Hp) (vs : List V) (Q : VK) (E : XK), Room k (A.deeper (envOfC qual (defScope st) s.heap.objs.size f cdv)) → A.guards = some [] → sp vs H Q E →
      ∃ t, PSs (cxOf CX0 P w K mg base N qual (defScope st) f cdv A outer s H E).nox (defBody st) t ∧ t { nx := fun _ H' => Q .non H', rt := Q } (start N vs) H) : FnG P w K mg base CX0 (k + 1) f fd ps sp := by
  obtain ⟨oc, od, kV, doc, pm, an, cdv, ct, osl, rfl, lk, hcd⟩ := F.ex
  refine ⟨len, fun A outer s H args us vs Q E hr hg e0 hb r hsp => LamX.run_ofS lk hcd S hr e0 hb r (len _ _ _ _ hsp) fun hr' => ?_⟩
  obtain ⟨t, h, q⟩ := hbody cdv A outer s H vs Q E hr' hg hsp
  exact ⟨t, h.nox, q⟩
end
section
variable {X : Cx} {CX : CXT} {k : Nat} {f : Addr} {fd : FuncData} {ps : List Str} {sp : Sp} {E : XK} {x : Str} {ds : List Value} {dvs : List V} {e : Expr} {es : List Expr} {t : TA} {p pos : Pos}
theorem run_fnG {pins : List (Addr × Obj)} {σ : St} {H : Hp} {s : Shared} {Q : VK} {us : List Value} {vs : List V} (hG : X.A.guards = some []) (F : FnG X.prog X.w X.K X.mg X.base CX k f fd ps sp) (hr : Room k X.A) (hb : Binds X.K fd ps ds) (hd : Vals dvs ds)
    (hx : Passes CX X E) (I : Inv X pins σ H s) (r : Vals vs us) (h : sp (vs ++ dvs) H Q E) : wpAny (model X.prog X.w) X.A (call (.ref f) us) (EP X pins σ Q) X.xe s := by
  have rr : Vals (vs ++ dvs) (us ++ ds) := r.append hd
  have hlen : (us ++ ds).length = ps.length := by rw [← rr.length]; exact F.len _ _ _ _ h
  refine wpAny_call (codeAny_mono (F.run X.A X.stack s H ⟨us, []⟩ (us ++ ds) (vs ++ dvs) Q E hr hG I.env0 (hb s us I.kIn hlen) rr h) fun r s' hq => ?_)
  cases r with
  | error e => exact hx pins σ H s e s' I hq
  | ok fl =>
    cases fl with
    | ret u => exact I.after hq
    | next => exact False.elim hq
    | brk => exact False.elim hq
    | cont => exact False.elim hq
theorem pe_callG (hG : X.A.guards = some []) (F : FnG X.prog X.w X.K X.mg X.base CX k f fd ps sp) (hr : Room k X.A) (hg : Gl X x) (hm : X.mg x = some (.ref f)) (hk : PySem.W.keepIn X.K (.ref f) = true) (hb : Binds X.K fd ps ds) (hd : Vals dvs ds) (hx : Passes CX X E)
    (ha : PA X (e :: es) t) (hdb : (x == ("__debug__" : Str)) = false := by decide) (he : starEach (e :: es) X.env = (false, eval e X.env) :: starEach es X.env := by rfl) (hpl : (backTo pos (starEach es X.env)).any (·.1) = false := by rfl) :
    PE X (.Call (.Name x p) (e :: es) [] pos) (tCall sp dvs E t) := by
  refine ⟨fun pins s σ H Q I h => wpAny_Call_Name_kw (ld_glob I hg hm ?_ hdb)⟩
  refine PySem.W.callWith_K (h₀ := X.base) I.ok.mod.kin hk (thn (ha.run pos pins s σ H _ I h) fun us s1 ⟨vs, H1, I1, r, q⟩ => ⟨I1.kIn, run_fnG hG F hr hb hd hx I1 r q⟩) he hpl
/-- repr of a list or tuple of data -/
def rRepr (K : PySem.W.Frag) : List V → Hp → VK → Prop := fun xs H Q => ∃ (a : Addr) (d : PyData), xs = [.ref a] ∧ Dp K H (.ref a) d ∧ d.showable = true ∧ d.hasDict = false ∧ d.depth ≤ 64 ∧ d.shown.length ≤ sizeLine ∧ Q (.str d.shown) H
theorem c_repr (hG : X.A.guards = some []) (hu : X.A.units + 128 < cLine) : CallR X (.builtin "repr") (rRepr X.K) := by
  intro pins s σ H xs us Q I r h
  obtain ⟨a, d, rfl, hd, h1, h2, h3, h4, q⟩ := h
  obtain ⟨u, rfl, rx⟩ := vals1 r
  cases (show u = Value.ref a from rx)
  obtain ⟨as, hr⟩ := Dp.reads I d _ _ hd rx
  refine repr_of_reads' hr h1 (fun z => by rw [h2] at z; cases z) hG (by omega) (fun _ _ z => z) (fun h' u tk hk => ?_) h4
  exact ⟨.str d.shown, H, I.kept hk, ⟨u, rfl⟩, q⟩
end
end L2

namespace LamX
open PySem PySem.Spec PyProof.Rows L2
theorem law_callG {P : Program} {w : World} {K : PySem.W.Frag} {mg mBlt : Str → Option Value} {CX : CXT} {k : Nat} {fLaw a : Addr} {tabs : List (Addr × Addr)} {fdLaw : FuncData} {x : Str} {spc : Sp} {s₁ : Shared} {items : List Value} {nums : List Int}
    (KH : K.In s₁.heap) (nsG : s₁.heap.Ns mainGlobals mg) (hB2 : s₁.heap.Ns builtinsNs mBlt) (bltB : ∀ x : Str, x ≠ "__name__" → mBlt x = bootBuiltins x) (limG : s₁.heap.NoLimit) (gnE : s₁.gens = #[])
    (tabE : ∀ p ∈ tabs, s₁.heap.get? p.2 = some { cls := .none, data := .fields #[] }) (tabK : ∀ p ∈ tabs, K.lookup p.2 = none) (cdE : ∀ p ∈ tabs, PySem.W.CodeHd s₁.heap p.1 p.2)
    (bmE : ∃ (bmA : Addr) (obj : Obj), mg "__builtins__" = some (.ref bmA) ∧ bmA ≠ builtinsNs ∧ s₁.heap.get? bmA = some obj ∧ obj.cls = .type "module" ∧ obj.dict = some builtinsNs ∧ obj.data = .plain)
    (scE : s₁.heap.get? a = some { cls := .type "list", data := .seq items.toArray }) (inE : IntsAre items nums) (lnE : nums.length ≤ sizeLine) (rmE : Room k callerA)
    (FF : ∀ base : Heap, K.In base → base.Ns mainGlobals mg → (∀ p ∈ tabs, TabB base mg p.1 p.2) → L2.FnG P w K mg base CX k fLaw fdLaw [x] spc) (bdE : ∀ (s : Shared) (u : Value), BindsTo s fdLaw ⟨[u], []⟩ [(x, u)])
    (spE : ∀ H : Hp, (∀ p ∈ tabs, H p.2 = some (.tbl #[])) → SqL K H a (nums.map V.int) → spc [.ref a] H (fun v _ => v = .bl true) fun _ _ _ => False)
    (cxE : ∀ H e s', CX [] H s₁ (fun _ _ _ => False) e s' → False) :
    codeAny (model P w) callerA (.call (.ref fLaw) ⟨[.ref a], []⟩) (fun r s' => r = .ok (.ret (.bool true)) ∧ OldK s₁.heap s'.heap ∧ s'.os = s₁.os ∧ AllBare s'.gens) s₁ := by
  have rvs := vals_ints inE
  have lenW := inE.length
  have isTb : ∀ b : Addr, b ∈ tabs.map (·.2) → s₁.heap.get? b = some { cls := .none, data := .fields #[] } := fun b hB2 => by
    obtain ⟨p, memP, e⟩ := List.mem_map.mp hB2
    rw [← e]
    exact tabE p memP
  have notTb : a ∉ tabs.map (·.2) := fun zq => by
    have qq := isTb a zq
    rw [scE] at qq
    have z' : Data.seq items.toArray _ = Data.fields #[] := congrArg Obj.data (Option.some.inj qq)
    cases z'
  have inTb : ∀ p ∈ tabs, p.2 ∈ tabs.map (·.2) := fun p memP => List.mem_map.mpr ⟨p, memP, rfl⟩
  -- from an abstract heap in which nothing but the script and the tables may be tracked
  have main0 : ∀ H : Hp, (∀ p ∈ tabs, H p.2 = some (.tbl #[])) → (∀ b, H b = none ∨ b ∈ tabs.map (·.2) ∨ ∃ o xs, H b = some (.frz o (.lst xs))) → SqL K H a (nums.map V.int) → HOk P w H s₁.heap → (∀ b, H b ≠ none → b = a ∨ b ∈ tabs.map (·.2)) → (H a ≠ none → K.lookup a = none) →
      codeAny (model P w) callerA (.call (.ref fLaw) ⟨[.ref a], []⟩) (fun r s' => r = .ok (.ret (.bool true)) ∧ OldK s₁.heap s'.heap ∧ s'.os = s₁.os ∧ AllBare s'.gens) s₁ := by
    intro H Htab Hone Hscr Hok0 Hall HKn
    have toBase : ∀ {b : Addr} {o : Obj}, s₁.heap.get? b = some o → H b = none → (hidT s₁.heap H).get? b = some o := fun e n => hidT_get e n
    have notD : ∀ {b : Addr} {o : Obj}, s₁.heap.get? b = some o → (∀ items n, o.data ≠ .seq items n) → o.data ≠ .fields #[] → H b = none := fun {b o} e h11 hh => by
      cases qq : H b with
      | none => rfl
      | some u =>
        rcases Hall b (by rw [qq]; simp) with e' | e'
        · rw [e', scE] at e
          cases e
          exact (h11 _ _ rfl).elim
        · rw [isTb b e'] at e
          cases e
          exact (hh rfl).elim
    have notA : ∀ {b : Addr} {o : Obj} {es : Array DictEntry} {epp : Nat}, s₁.heap.get? b = some o → o.data = .dict es epp → H b = none := fun {b o es epp} e d => by
      refine notD e (fun items n zq => ?_) fun zq => ?_
      · rw [d] at zq
        cases zq
      · rw [d] at zq
        cases zq
    have nsB0 : ∀ {b : Addr} {m : Str → Option Value}, s₁.heap.Ns b m → (hidT s₁.heap H).Ns b m := fun {b m} ⟨o, es, epp, e, d, r⟩ => ⟨o, es, epp, toBase e (notA e d), d, r⟩
    have KBase : K.In (hidT s₁.heap H) := fun b o e => toBase (KH b o e) (by
      cases qq : H b with
      | none => rfl
      | some u =>
        rcases Hall b (by rw [qq]; simp) with e' | e'
        · rw [e'] at e qq
          rw [HKn (by rw [qq]; simp)] at e
          cases e
        · obtain ⟨p, memP, epp⟩ := List.mem_map.mp e'
          rw [← epp, tabK p memP] at e
          cases e)
    have modB : L2.Mod K mg (hidT s₁.heap H) := ⟨KBase, nsB0 nsG, ⟨mBlt, nsB0 hB2, bltB⟩, let ⟨mc, h11, hh⟩ := limG; ⟨mc, nsB0 h11, hh⟩⟩
    have tabB0 : ∀ p ∈ tabs, TabB (hidT s₁.heap H) mg p.1 p.2 := fun p memP => by
      have hTp := tabE p memP
      refine ⟨?_, ?_, fun zq => ?_⟩
      · obtain ⟨o, uus, file, tf, flags, tg, inF, text, tt, e1, r1, r2, r3, r4, r5, r6, r7, r8, hne⟩ := cdE p memP
        refine ⟨o, uus, file, tf, flags, tg, inF, text, tt, toBase e1 (notD e1 (fun items n zq => ?_) fun zq => ?_), r1, r2, r3, r4, r5, r6, r7, r8, hne⟩
        · rw [r2] at zq
          cases zq
        · rw [r2] at zq
          cases zq
          simp at r3
      · obtain ⟨bmA, obj, b1, b2, b3, b4, b5, b6⟩ := bmE
        have nG : bmA ≠ mainGlobals := fun qq => by
          obtain ⟨o, es, epp, e, hd, _⟩ := nsG
          rw [qq, e] at b3
          cases b3
          rw [hd] at b6
          cases b6
        have nP : bmA ≠ p.2 := fun qq => by
          rw [qq, hTp] at b3
          cases b3
          cases b6
        refine ⟨bmA, obj, b1, b2, nG, nP, toBase b3 (notD b3 (fun items n zq => ?_) fun zq => ?_), b4, b5, b6⟩
        · rw [b6] at zq
          cases zq
        · rw [b6] at zq
          cases zq
      · obtain ⟨o, es, epp, e, hd, _⟩ := nsG
        rw [zq, hTp] at e
        cases e
        cases hd
    have env0 : Env0 P w K mg (hidT s₁.heap H) callerA [] s₁ H := ⟨rfl, modB, fun b o e => of_hidT e, Nat.le_of_eq (hidT_size _ _), trivial, fun b hB2 => absurd (show b ∈ ([] : List Addr) from hB2) (by simp), Hok0, .of_eq gnE⟩
    refine codeAny_mono ((FF _ KBase (nsB0 nsG) tabB0).run callerA [] s₁ H ⟨[.ref a], []⟩ [.ref a] [.ref a] _ _ rmE rfl env0 (bdE s₁ (.ref a)) (.cons rfl .nil) (spE H Htab Hscr)) fun r s' h => ?_
    cases r with
    | error e => exact (cxE H e s' h).elim
    | ok fl =>
      cases fl with
      | next => exact False.elim h
      | brk => exact False.elim h
      | cont => exact False.elim h
      | ret u =>
        obtain ⟨v, H', osE, bareE, unk, Hok1, r', qq⟩ := h
        have q' : v = .bl true := qq
        subst q'
        obtain rfl : u = Value.bool true := r'
        have kept0 : ∀ b o, b ∉ tabs.map (·.2) → s₁.heap.get? b = some o → s'.heap.get? b = some o := fun b o nb e => by
          cases qq : H b with
          | none => exact unk.keep b o e qq (by intro zq; exact absurd (show b ∈ ([] : List Addr) from zq) (by simp)) (by simp)
          | some u =>
            rcases Hone b with zq | zq | ⟨obj, xs, zq⟩
            · rw [qq] at zq; cases zq
            · exact absurd zq nb
            · have zz := unk.frzs b obj _ zq
              obtain ⟨e1, _⟩ := Hok0 b _ zq
              obtain ⟨ee, _⟩ := Hok1 b _ zz
              rw [e] at e1; cases e1
              exact ee
        have grew : ∀ p ∈ tabs, ∃ rest : Array Value, s'.heap.get? p.2 = some { cls := .none, data := .fields rest } := fun p memP => by
          obtain ⟨rest, zq⟩ := unk.tbls p.2 #[] (Htab p memP)
          exact ⟨_, Hok1 p.2 _ zq⟩
        refine ⟨rfl, ⟨fun b o e => ?_, fun b o e => ?_⟩, osE, bareE⟩
        · by_cases hB2 : b ∈ tabs.map (·.2)
          · obtain ⟨p, memP, epp⟩ := List.mem_map.mp hB2
            obtain ⟨rest, hmo⟩ := grew p memP
            rw [← epp] at e ⊢
            rw [tabE p memP] at e
            cases e
            exact .inr (.inl ⟨((cdE p memP).tab (tabE p memP)).isCodeTable, rfl, #[], rest, rfl, by rw [Array.empty_append]; exact hmo⟩)
          · exact .inl (kept0 b o hB2 e)
        · by_cases hB2 : b ∈ tabs.map (·.2)
          · obtain ⟨p, memP, epp⟩ := List.mem_map.mp hB2
            obtain ⟨rest, hmo⟩ := grew p memP
            rw [← epp]
            exact ⟨_, hmo⟩
          · exact ⟨o, kept0 b o hB2 e⟩
  cases lookE : K.lookup a with
  | some o =>
    have e := KH a o lookE
    rw [scE] at e
    cases e
    refine main0 (fun b => if b ∈ tabs.map (·.2) then some (.tbl #[]) else none) (fun p memP => if_pos (inTb p memP)) (fun b => ?_) (.inr ⟨_, items.toArray, _, lookE, rfl, rfl, rfl, by rw [List.size_toArray, lenW]; exact lnE, by simpa using rvs⟩) (fun b u zq => ?_) (fun b zq => ?_) fun zq => absurd (show (if a ∈ tabs.map (·.2) then some (HO.tbl #[]) else none) = none from if_neg notTb) zq
    · by_cases hB2 : b ∈ tabs.map (·.2)
      · exact .inr (.inl hB2)
      · exact .inl (if_neg hB2)
    · by_cases hB2 : b ∈ tabs.map (·.2)
      · have z' := (if_pos hB2).symm.trans zq
        cases z'
        exact isTb b hB2
      · have z' := (if_neg hB2).symm.trans zq
        cases z'
    · by_cases hB2 : b ∈ tabs.map (·.2)
      · exact .inr hB2
      · exact absurd (if_neg hB2) zq
  | none =>
    refine main0 (fun b => if b = a then some (.frz { cls := .type "list", data := .seq items.toArray } (.lst (nums.map V.int))) else if b ∈ tabs.map (·.2) then some (.tbl #[]) else none) (fun p memP => (if_neg (show ¬ p.2 = a from fun zq => notTb (by rw [← zq]; exact inTb p memP))).trans (if_pos (inTb p memP))) (fun b => ?_)
      (.inl (.inr ⟨{ cls := .type "list", data := .seq items.toArray }, if_pos rfl⟩)) (fun b u zq => ?_) (fun b zq => ?_) fun _ => lookE
    · by_cases hB2 : b = a
      · exact .inr (.inr ⟨_, _, if_pos hB2⟩)
      · by_cases hb2 : b ∈ tabs.map (·.2)
        · exact .inr (.inl hb2)
        · exact .inl ((if_neg hB2).trans (if_neg hb2))
    · by_cases hB2 : b = a
      · have z' := (if_pos hB2).symm.trans zq
        cases z'
        rw [hB2]
        exact ⟨scE, by rw [List.length_map]; exact lnE, items, _, rvs, scE⟩
      · have z1 := (if_neg hB2).symm.trans zq
        by_cases hb2 : b ∈ tabs.map (·.2)
        · have z' := (if_pos hb2).symm.trans z1
          cases z'
          exact isTb b hb2
        · have z' := (if_neg hb2).symm.trans z1
          cases z'
    · by_cases hB2 : b = a
      · exact .inl hB2
      · by_cases hb2 : b ∈ tabs.map (·.2)
        · exact .inr hb2
        · exact absurd ((if_neg hB2).trans (if_neg hb2)) zq
/-- what is known of the law's promise at the head's heap h -/
def LawAtG (l : PySem.W.OpenLaw) (w : World) (K : PySem.W.Frag) (CX : CXT) (k n : Nat) (x : Str) (mg : Str → Option Value) (fLaw : Addr) (h : Heap) : Prop :=
  ∃ (fdLaw : FuncData) (tabs : List (Addr × Addr)) (spc : Sp), (∀ p ∈ tabs, h.get? p.2 = some { cls := .none, data := .fields #[] }) ∧ (∀ p ∈ tabs, K.lookup p.2 = none) ∧ (∀ p ∈ tabs, PySem.W.CodeHd h p.1 p.2) ∧ (∀ (s : Shared) (u : Value), BindsTo s fdLaw ⟨[u], []⟩ [(x, u)]) ∧
    (∀ (H : Hp) (a : Addr) (nums : List Int), nums.length ≤ n → (∀ zq ∈ nums, Builtin.Int.intBits zq ≤ 1048576) → (∀ p ∈ tabs, H p.2 = some (.tbl #[])) → SqL K H a (nums.map V.int) → spc [.ref a] H (fun v _ => v = .bl true) fun _ _ _ => False) ∧
    ∀ base : Heap, K.In base → base.Ns mainGlobals mg → (∀ p ∈ tabs, TabB base mg p.1 p.2) → L2.FnG l.prog w K mg base CX k fLaw fdLaw [x] spc
theorem walk_ofG {l : PySem.W.OpenLaw} {n k : Nat} {qq : Program} {loose : List Str} {XP : (Str → Option Value) → Heap → Prop} {YP : World → Heap → Prop} {d : DefRec} {K : Params → PySem.W.Frag} {CX : World → CXT} {x : Str}
    (hn : l.most = some n) (hn2 : n ≤ sizeLine) (hdf : d.params.defaults = []) (rmE : Room k callerA) (hY : ∀ (w : World) (h : Heap), YP w h → (K w.params).In h)
    (FF : ∀ (w : World) (mg : Str → Option Value) (fLaw : Addr) (h : Heap), YP w h → (K w.params).In h → h.Ns mainGlobals mg → mg d.name = some (.ref fLaw) → LawAtG l w (K w.params) (CX w) k n x mg fLaw h)
    (cxE : ∀ (w : World) (H : Hp) (s : Shared) (e : Value) (s' : Shared), CX w [] H s (fun _ _ _ => False) e s' → False) :
    PySem.W.WalkO qq loose XP YP l.row.toRowW d [] (fun f items => PySem.call f items) := by
  refine Att.attach_callB hn hdf fun w s₀ s₁ mg mBlt fLaw o pm cd doc a items nums G Y ho hd hcd hmg hobj hints hlen hbits gnE => ?_
  have KH := hY w _ Y
  obtain ⟨fdLaw, tabs, spc, tabE, tabK, cdE, hB2, spE, hF⟩ := FF w mg fLaw _ Y KH G.T.g hmg
  exact law_callG KH G.T.g G.T.b G.T.builtins G.T.nolimit gnE tabE tabK cdE G.T.bmain hobj hints (Nat.le_trans hlen hn2) rmE hF hB2 (fun H Htab Hscr => spE H a nums hlen hbits Htab Hscr) fun H e s' => cxE w H s₁ e s'
end LamX

namespace NN
open PySem PySem.Spec PyProof.Rows L2 LamX AW ClX
def codeTab : Obj → Option Addr
  | ⟨.type "code", _, .fields vs, _⟩ => match (vs[11]? : Option Value) with | some (.ref P) => some P | _ => none
  | _ => none
def codeB (o : Obj) (c P : Addr) : Bool := PySem.W.codeHdIn [(c, o)] c P
theorem codeB_in {K : PySem.W.Frag} {o : Obj} {c P : Addr} (h : K.lookup c = some o) (e : codeB o c P = true) : PySem.W.codeHdIn K c P = true := by
  have q : ([(c, o)] : PySem.W.Frag).lookup c = some o := by simp [List.lookup]
  unfold codeB PySem.W.codeHdIn at e
  rw [q] at e
  unfold PySem.W.codeHdIn
  rw [h]
  exact e
theorem mem_look {β : Type} : ∀ {l : List (Addr × β)} {a : Addr} {b : β}, l.lookup a = some b → (a, b) ∈ l
  | [], _, _, e => by cases e
  | (c, x) :: r, a, b, e => by
    rw [List.lookup_cons] at e
    cases hb : a == c with
    | true => rw [hb] at e; cases e; rw [eq_of_beq hb]; exact .head _
    | false => rw [hb] at e; exact .tail _ (mem_look e)
theorem none_of {K : Params → PySem.W.Frag} {as : List Addr} {e : ∀ P, as = (K P).map (·.1)} {ts : List Addr} {w : World} {h : Heap} (_ : (PySem.W.kmHook K as e ts).says w h) {a : Addr} (ha : decide (a ∈ as) = false) : (K w.params).lookup a = none := by
  cases q : (K w.params).lookup a with
  | none => rfl
  | some o =>
    have m : a ∈ as := by rw [e w.params]; exact List.mem_map.mpr ⟨(a, o), mem_look q, rfl⟩
    exact absurd m (of_decide_eq_false ha)
def top (i : Nat) : Stmt := PySem.Challenge.pw_nodeadnight_k17_whole_days_and_stays.main.body.getD i (.Pass ⟨0, 0, 0, 0⟩)
abbrev s_is_whole : Stmt := top 5
abbrev s_is_from : Stmt := top 6
abbrev s_are_from : Stmt := top 7
abbrev s_is_day : Stmt := top 8
abbrev s_marked : Stmt := top 10
abbrev s_least_period : Stmt := top 11
abbrev s_BadDays___init__ : Stmt := inClass (top 17) 0
abbrev s_BadStay___init__ : Stmt := inClass (top 18) 0
abbrev s_TooMany___init__ : Stmt := inClass (top 21) 0
abbrev s_Days___init__ : Stmt := inClass (top 23) 1
abbrev s_Days_period : Stmt := inClass (top 23) 2
abbrev s_Days_none : Stmt := inClass (top 23) 6
abbrev s_Days___contains__ : Stmt := inClass (top 23) 8
abbrev s_Days_following : Stmt := inClass (top 23) 9
abbrev s_Days___rshift__ : Stmt := inClass (top 23) 10
abbrev s_Days___lshift__ : Stmt := inClass (top 23) 11
abbrev s_Days___and__ : Stmt := inClass (top 23) 12
abbrev s_Days___or__ : Stmt := inClass (top 23) 13
abbrev s_Days___sub__ : Stmt := inClass (top 23) 14
abbrev s_Days___invert__ : Stmt := inClass (top 23) 15
abbrev s_Days___le__ : Stmt := inClass (top 23) 16
abbrev s_Days___eq__ : Stmt := inClass (top 23) 20
abbrev s_common_period : Stmt := top 24
abbrev s_Lengths___init__ : Stmt := inClass (top 28) 1
abbrev s_Lengths_start : Stmt := inClass (top 28) 2
abbrev s_Lengths_period : Stmt := inClass (top 28) 3
abbrev s_Lengths_of : Stmt := inClass (top 28) 9
abbrev s_Lengths_since : Stmt := inClass (top 28) 10
abbrev s_Lengths_none : Stmt := inClass (top 28) 13
abbrev s_Lengths___contains__ : Stmt := inClass (top 28) 15
abbrev s_Lengths_at_least : Stmt := inClass (top 28) 16
abbrev s_Lengths_below : Stmt := inClass (top 28) 17
abbrev s_Lengths___or__ : Stmt := inClass (top 28) 20
abbrev s_Lengths___sub__ : Stmt := inClass (top 28) 21
abbrev s_Lengths___eq__ : Stmt := inClass (top 28) 27
abbrev s_check_parts : Stmt := top 29
abbrev s_check_size : Stmt := top 30
abbrev s_check_argument : Stmt := top 31
abbrev s_check_number : Stmt := top 32
abbrev s_common_form : Stmt := top 33
abbrev s_gathered : Stmt := top 34
abbrev s_Stay___init__ : Stmt := inClass (top 39) 1
abbrev s_Stay___len__ : Stmt := inClass (top 39) 3
abbrev s_Stay___iter__ : Stmt := inClass (top 39) 4
abbrev s_Stay___rshift__ : Stmt := inClass (top 39) 6
abbrev s_Stay___lshift__ : Stmt := inClass (top 39) 7
abbrev s_Stay___floordiv__ : Stmt := inClass (top 39) 8
abbrev s_Stay_meets : Stmt := inClass (top 39) 9
abbrev s__law_pen : Stmt := top 41
abbrev s__law_draw : Stmt := top 42
abbrev s__law_pick : Stmt := top 43
abbrev s__law_days : Stmt := top 44
abbrev s__law_many : Stmt := top 45
abbrev s__law_counts_right : Stmt := top 46
abbrev s__law_moved_right : Stmt := top 47
abbrev s__law_parts_right : Stmt := top 48
abbrev s__law_listed_right : Stmt := top 49
abbrev s_law : Stmt := top 50
-- a first walk that is given what is false: it leaves the constants of the view and of the objects
local macro_rules
  | `(tactic| refine $t:term) => do
    let s := t.raw
    unless s.isOfKind ``Lean.Parser.Term.app do Lean.Macro.throwUnsupported
    let am := Lean.mkIdent `AM
    if s[0].getId.eraseMacroScopes == `HeadRun.left_impK then
      `(tactic| (refine' (fun (_ : ∀ (_ : Nat), 0 = 0) => ?aux) ?more; (case aux => exact False.elim $am:ident)))
    else if s[1][0].isOfKind ``Lean.Parser.Term.namedArgument && s[1][0][1].getId.eraseMacroScopes == `q then
      let hc := Lean.mkIdent `hc
      let hw := Lean.mkIdent `hw
      `(tactic| ((refine' $t); (case' $hc:ident => refine' (?hcc : _ → _) $am:ident); (case' $hw:ident => refine' (?hww : _ → _) $am:ident)))
    else Lean.Macro.throwUnsupported
open PySem.W in
set_option maxHeartbeats 0 in
theorem pre (AM : False) : PySem.Challenge.rw_nodeadnight_k17_whole_days_and_stays.Holds := by
  w_on; o_law; k_headL
  all_goals (intro z; exact False.elim z)
-- the run, looked at in portions
section
open PySem.W PySem.Calls HeadRun
abbrev thePr : Program := PySem.Challenge.rw_nodeadnight_k17_whole_days_and_stays.row.prog
abbrev theLo : List PySem.Str := [Str.ofString "Days", Str.ofString "read_parts_days", Str.ofString "Lengths", Str.ofString "read_parts_lengths", Str.ofString "Stay"]
noncomputable abbrev theXt : Shared → Bool := fun s => xlAt pre.view_39 [] s && recOk PySem.Challenge.rw_nodeadnight_k17_whole_days_and_stays.row.records s
set_option maxHeartbeats 0
theorem run_0 (v : World) :
    (wholeF (fun c => stepQ (denQ tabQ) c v) fenceQ 16044 thePr).map (fun z => looksF thePr z.1.heap z.2.abs) = some true := by kernel_rfl
theorem run_1 (v : World) :
    (wholeF (fun c => stepQ (denQ tabQ) c v) fenceQ 16044 thePr).map (fun z =>
      seenQ pre.view_39 theLo (importedModules thePr.main.body) theXt z.2.abs) =
    some (openGood pre.view_39 theLo) := by kernel_rfl
theorem run_2 (v : World) :
    (wholeF (fun c => stepQ (denQ tabQ) c v) fenceQ 16044 thePr).map (fun z =>
      (List.take 266 ((pre.heap_39 v.params).map Prod.fst)).map (getT z.2)) =
    some ((List.take 266 (pre.heap_39 v.params)).map fun y => some y.2) := by kernel_rfl
theorem run_3 (v : World) :
    (wholeF (fun c => stepQ (denQ tabQ) c v) fenceQ 16044 thePr).map (fun z =>
      (List.drop 266 ((pre.heap_39 v.params).map Prod.fst)).map (getT z.2)) =
    some ((List.drop 266 (pre.heap_39 v.params)).map fun y => some y.2) := by kernel_rfl
theorem cut_run {α β γ A O : Type} {x : Option α} {f : α → β} {g : α → γ} {G : α → A → O} {as : List A} {b : β} {c : γ} {ks : List O} (n : Nat)
    (h0 : x.map f = some b) (h1 : x.map g = some c)
    (h2 : x.map (fun s => (as.take n).map (G s)) = some (ks.take n))
    (h3 : x.map (fun s => (as.drop n).map (G s)) = some (ks.drop n)) :
    x.map (fun s => (f s, g s, as.map (G s))) = some (b, c, ks) := by
  cases x with
  | none => cases h1
  | some s =>
    have e0 : f s = b := Option.some.inj h0
    have e1 : g s = c := Option.some.inj h1
    have e2 : (as.take n).map (G s) = ks.take n := Option.some.inj h2
    have e3 : (as.drop n).map (G s) = ks.drop n := Option.some.inj h3
    have e4 : as.map (G s) = ks := by
      rw [← List.take_append_drop n as, List.map_append, e2, e3, List.take_append_drop]
    show some (f s, g s, as.map (G s)) = _
    rw [e0, e1, e4]
theorem left_cutI {pr qv : Program} {lo : List PySem.Str} {Xw : Shared → Bool} {KK : Params → Frag} {ads : List Addr}
    {ek : ∀ P, ads = (KK P).map (·.1)} {M : Nat} (n : Nat)
    (r0 : ∀ v : World, (wholeF (fun c => stepQ (denQ tabQ) c v) fenceQ M pr).map (fun z => looksF pr z.1.heap z.2.abs) = some true)
    (r1 : ∀ v : World, (wholeF (fun c => stepQ (denQ tabQ) c v) fenceQ M pr).map (fun z =>
      seenQ qv lo (importedModules pr.main.body) Xw z.2.abs) = some (openGood qv lo))
    (r2 : ∀ v : World, (wholeF (fun c => stepQ (denQ tabQ) c v) fenceQ M pr).map (fun z =>
      (List.take n ((KK v.params).map Prod.fst)).map (getT z.2)) = some ((List.take n (KK v.params)).map fun y => some y.2))
    (r3 : ∀ v : World, (wholeF (fun c => stepQ (denQ tabQ) c v) fenceQ M pr).map (fun z =>
      (List.drop n ((KK v.params).map Prod.fst)).map (getT z.2)) = some ((List.drop n (KK v.params)).map fun y => some y.2)) :
    LeftO pr qv lo Xw (Hook.obs (kHook KK ads ek)) (Hook.val (kHook KK ads ek)) M true :=
  left_impK fun v => by
    have e : (KK v.params).map Prod.fst = ads := (ek v.params).symm
    have a2 := r2 v
    have a3 := r3 v
    rw [e, List.map_take] at a2
    rw [e, List.map_drop] at a3
    exact cut_run n (r0 v) (r1 v) a2 a3
end
-- the head's walk may lean on what the theorem is given: AM goes over the clear
local macro_rules
  | `(tactic| refine $t:term) => do
    let s := t.raw
    unless s.isOfKind ``Lean.Parser.Term.app do Lean.Macro.throwUnsupported
    if s[0].getId.eraseMacroScopes == `HeadRun.left_impK then
      `(tactic| (refine' (fun (_ : ∀ (_ : Nat), 0 = 0) => ?aux) ?more; (case aux => exact left_cutI 266 run_0 run_1 run_2 run_3)))
    else if s[1][0].isOfKind ``Lean.Parser.Term.namedArgument && s[1][0][1].getId.eraseMacroScopes == `q then
      let hc := Lean.mkIdent `hc
      let am := Lean.mkIdent `AM
      `(tactic| ((refine' $t); (case' $hc:ident => refine' (?hcc : _ → _) @$am:ident)))
    else Lean.Macro.throwUnsupported
open PySem.W in
set_option maxHeartbeats 0 in
theorem head_at (AM : ∀ {K : PySem.W.Frag} {h : Heap} {mg : Str → Option Value} {l : PySem.W.OpenLaw} {w : World} {fa : Addr} (hfa : mg "law" = some (.ref fa)) (X : K.In h) (G : h.Ns mainGlobals mg)
    {f_is_whole : Addr}
    {oc_is_whole : Value}
    {kV_is_whole : Value}
    {dc_is_whole : Value}
    {pm_is_whole : Value}
    {cd_is_whole : Value}
    {ct_is_whole : Value}
    {od_is_whole : Option Addr}
    {an_is_whole : Option Addr}
    {sl_is_whole : Array (Option Value)}
    {f_is_from : Addr}
    {oc_is_from : Value}
    {kV_is_from : Value}
    {dc_is_from : Value}
    {pm_is_from : Value}
    {cd_is_from : Value}
    {ct_is_from : Value}
    {od_is_from : Option Addr}
    {an_is_from : Option Addr}
    {sl_is_from : Array (Option Value)}
    {f_is_day : Addr}
    {oc_is_day : Value}
    {kV_is_day : Value}
    {dc_is_day : Value}
    {pm_is_day : Value}
    {cd_is_day : Value}
    {ct_is_day : Value}
    {od_is_day : Option Addr}
    {an_is_day : Option Addr}
    {sl_is_day : Array (Option Value)}
    {f_are_from : Addr}
    {oc_are_from : Value}
    {kV_are_from : Value}
    {dc_are_from : Value}
    {pm_are_from : Value}
    {cd_are_from : Value}
    {ct_are_from : Value}
    {od_are_from : Option Addr}
    {an_are_from : Option Addr}
    {sl_are_from : Array (Option Value)}
    {f_marked : Addr}
    {oc_marked : Value}
    {kV_marked : Value}
    {dc_marked : Value}
    {pm_marked : Value}
    {cd_marked : Value}
    {ct_marked : Value}
    {od_marked : Option Addr}
    {an_marked : Option Addr}
    {sl_marked : Array (Option Value)}
    {f_least_period : Addr}
    {oc_least_period : Value}
    {kV_least_period : Value}
    {dc_least_period : Value}
    {pm_least_period : Value}
    {cd_least_period : Value}
    {ct_least_period : Value}
    {od_least_period : Option Addr}
    {an_least_period : Option Addr}
    {sl_least_period : Array (Option Value)}
    {f_common_period : Addr}
    {oc_common_period : Value}
    {kV_common_period : Value}
    {dc_common_period : Value}
    {pm_common_period : Value}
    {cd_common_period : Value}
    {ct_common_period : Value}
    {od_common_period : Option Addr}
    {an_common_period : Option Addr}
    {sl_common_period : Array (Option Value)}
    {f_check_parts : Addr}
    {oc_check_parts : Value}
    {kV_check_parts : Value}
    {dc_check_parts : Value}
    {pm_check_parts : Value}
    {cd_check_parts : Value}
    {ct_check_parts : Value}
    {od_check_parts : Option Addr}
    {an_check_parts : Option Addr}
    {sl_check_parts : Array (Option Value)}
    {f_check_size : Addr}
    {oc_check_size : Value}
    {kV_check_size : Value}
    {dc_check_size : Value}
    {pm_check_size : Value}
    {cd_check_size : Value}
    {ct_check_size : Value}
    {od_check_size : Option Addr}
    {an_check_size : Option Addr}
    {sl_check_size : Array (Option Value)}
    {f_check_argument : Addr}
    {oc_check_argument : Value}
    {kV_check_argument : Value}
    {dc_check_argument : Value}
    {pm_check_argument : Value}
    {cd_check_argument : Value}
    {ct_check_argument : Value}
    {od_check_argument : Option Addr}
    {an_check_argument : Option Addr}
    {sl_check_argument : Array (Option Value)}
    {f_check_number : Addr}
    {oc_check_number : Value}
    {kV_check_number : Value}
    {dc_check_number : Value}
    {pm_check_number : Value}
    {cd_check_number : Value}
    {ct_check_number : Value}
    {od_check_number : Option Addr}
    {an_check_number : Option Addr}
    {sl_check_number : Array (Option Value)}
    {f_common_form : Addr}
    {oc_common_form : Value}
    {kV_common_form : Value}
    {dc_common_form : Value}
    {pm_common_form : Value}
    {cd_common_form : Value}
    {ct_common_form : Value}
    {od_common_form : Option Addr}
    {an_common_form : Option Addr}
    {sl_common_form : Array (Option Value)}
    {f_gathered : Addr}
    {oc_gathered : Value}
    {kV_gathered : Value}
    {dc_gathered : Value}
    {pm_gathered : Value}
    {cd_gathered : Value}
    {ct_gathered : Value}
    {od_gathered : Option Addr}
    {an_gathered : Option Addr}
    {sl_gathered : Array (Option Value)}
    {c_StayError : Addr}
    {c_BadDays : Addr}
    {nm_BadDays : Str}
    {q_BadDays : Str}
    {N_BadDays : Addr}
    {bs_BadDays : List Value}
    {bm_BadDays : List Value}
    {sn_BadDays : List Str}
    {sub_BadDays : List Value}
    {ab_BadDays : Bool}
    {col_BadDays : Option Bool}
    {dd_BadDays : Option Addr}
    {m0_BadDays : Option Value}
    {m1_BadDays : Option Value}
    {m2_BadDays : Option Value}
    {m3_BadDays : Option Value}
    {m5_BadDays : Option Value}
    {f_BadDays___init__ : Addr}
    {oc_BadDays___init__ : Value}
    {kV_BadDays___init__ : Value}
    {dc_BadDays___init__ : Value}
    {pm_BadDays___init__ : Value}
    {cd_BadDays___init__ : Value}
    {ct_BadDays___init__ : Value}
    {od_BadDays___init__ : Option Addr}
    {an_BadDays___init__ : Option Addr}
    {sl_BadDays___init__ : Array (Option Value)}
    {c_BadStay : Addr}
    {nm_BadStay : Str}
    {q_BadStay : Str}
    {N_BadStay : Addr}
    {bs_BadStay : List Value}
    {bm_BadStay : List Value}
    {sn_BadStay : List Str}
    {sub_BadStay : List Value}
    {ab_BadStay : Bool}
    {col_BadStay : Option Bool}
    {dd_BadStay : Option Addr}
    {m0_BadStay : Option Value}
    {m1_BadStay : Option Value}
    {m2_BadStay : Option Value}
    {m3_BadStay : Option Value}
    {m5_BadStay : Option Value}
    {f_BadStay___init__ : Addr}
    {oc_BadStay___init__ : Value}
    {kV_BadStay___init__ : Value}
    {dc_BadStay___init__ : Value}
    {pm_BadStay___init__ : Value}
    {cd_BadStay___init__ : Value}
    {ct_BadStay___init__ : Value}
    {od_BadStay___init__ : Option Addr}
    {an_BadStay___init__ : Option Addr}
    {sl_BadStay___init__ : Array (Option Value)}
    {c_TooMany : Addr}
    {nm_TooMany : Str}
    {q_TooMany : Str}
    {N_TooMany : Addr}
    {bs_TooMany : List Value}
    {bm_TooMany : List Value}
    {sn_TooMany : List Str}
    {sub_TooMany : List Value}
    {ab_TooMany : Bool}
    {col_TooMany : Option Bool}
    {dd_TooMany : Option Addr}
    {m0_TooMany : Option Value}
    {m1_TooMany : Option Value}
    {m2_TooMany : Option Value}
    {m3_TooMany : Option Value}
    {m5_TooMany : Option Value}
    {f_TooMany___init__ : Addr}
    {oc_TooMany___init__ : Value}
    {kV_TooMany___init__ : Value}
    {dc_TooMany___init__ : Value}
    {pm_TooMany___init__ : Value}
    {cd_TooMany___init__ : Value}
    {ct_TooMany___init__ : Value}
    {od_TooMany___init__ : Option Addr}
    {an_TooMany___init__ : Option Addr}
    {sl_TooMany___init__ : Array (Option Value)}
    {c_Days : Addr}
    {f_Days___init__ : Addr}
    {oc_Days___init__ : Value}
    {kV_Days___init__ : Value}
    {dc_Days___init__ : Value}
    {pm_Days___init__ : Value}
    {cd_Days___init__ : Value}
    {ct_Days___init__ : Value}
    {od_Days___init__ : Option Addr}
    {an_Days___init__ : Option Addr}
    {sl_Days___init__ : Array (Option Value)}
    {f_Days___eq__ : Addr}
    {oc_Days___eq__ : Value}
    {kV_Days___eq__ : Value}
    {dc_Days___eq__ : Value}
    {pm_Days___eq__ : Value}
    {cd_Days___eq__ : Value}
    {ct_Days___eq__ : Value}
    {od_Days___eq__ : Option Addr}
    {an_Days___eq__ : Option Addr}
    {sl_Days___eq__ : Array (Option Value)}
    {f_Days___contains__ : Addr}
    {oc_Days___contains__ : Value}
    {kV_Days___contains__ : Value}
    {dc_Days___contains__ : Value}
    {pm_Days___contains__ : Value}
    {cd_Days___contains__ : Value}
    {ct_Days___contains__ : Value}
    {od_Days___contains__ : Option Addr}
    {an_Days___contains__ : Option Addr}
    {sl_Days___contains__ : Array (Option Value)}
    {f_Days___and__ : Addr}
    {oc_Days___and__ : Value}
    {kV_Days___and__ : Value}
    {dc_Days___and__ : Value}
    {pm_Days___and__ : Value}
    {cd_Days___and__ : Value}
    {ct_Days___and__ : Value}
    {od_Days___and__ : Option Addr}
    {an_Days___and__ : Option Addr}
    {sl_Days___and__ : Array (Option Value)}
    {f_Days___or__ : Addr}
    {oc_Days___or__ : Value}
    {kV_Days___or__ : Value}
    {dc_Days___or__ : Value}
    {pm_Days___or__ : Value}
    {cd_Days___or__ : Value}
    {ct_Days___or__ : Value}
    {od_Days___or__ : Option Addr}
    {an_Days___or__ : Option Addr}
    {sl_Days___or__ : Array (Option Value)}
    {f_Days___sub__ : Addr}
    {oc_Days___sub__ : Value}
    {kV_Days___sub__ : Value}
    {dc_Days___sub__ : Value}
    {pm_Days___sub__ : Value}
    {cd_Days___sub__ : Value}
    {ct_Days___sub__ : Value}
    {od_Days___sub__ : Option Addr}
    {an_Days___sub__ : Option Addr}
    {sl_Days___sub__ : Array (Option Value)}
    {f_Days___invert__ : Addr}
    {oc_Days___invert__ : Value}
    {kV_Days___invert__ : Value}
    {dc_Days___invert__ : Value}
    {pm_Days___invert__ : Value}
    {cd_Days___invert__ : Value}
    {ct_Days___invert__ : Value}
    {od_Days___invert__ : Option Addr}
    {an_Days___invert__ : Option Addr}
    {sl_Days___invert__ : Array (Option Value)}
    {f_Days___rshift__ : Addr}
    {oc_Days___rshift__ : Value}
    {kV_Days___rshift__ : Value}
    {dc_Days___rshift__ : Value}
    {pm_Days___rshift__ : Value}
    {cd_Days___rshift__ : Value}
    {ct_Days___rshift__ : Value}
    {od_Days___rshift__ : Option Addr}
    {an_Days___rshift__ : Option Addr}
    {sl_Days___rshift__ : Array (Option Value)}
    {f_Days___lshift__ : Addr}
    {oc_Days___lshift__ : Value}
    {kV_Days___lshift__ : Value}
    {dc_Days___lshift__ : Value}
    {pm_Days___lshift__ : Value}
    {cd_Days___lshift__ : Value}
    {ct_Days___lshift__ : Value}
    {od_Days___lshift__ : Option Addr}
    {an_Days___lshift__ : Option Addr}
    {sl_Days___lshift__ : Array (Option Value)}
    {f_Days___le__ : Addr}
    {oc_Days___le__ : Value}
    {kV_Days___le__ : Value}
    {dc_Days___le__ : Value}
    {pm_Days___le__ : Value}
    {cd_Days___le__ : Value}
    {ct_Days___le__ : Value}
    {od_Days___le__ : Option Addr}
    {an_Days___le__ : Option Addr}
    {sl_Days___le__ : Array (Option Value)}
    {f_Days_following : Addr}
    {oc_Days_following : Value}
    {kV_Days_following : Value}
    {dc_Days_following : Value}
    {pm_Days_following : Value}
    {cd_Days_following : Value}
    {ct_Days_following : Value}
    {od_Days_following : Option Addr}
    {an_Days_following : Option Addr}
    {sl_Days_following : Array (Option Value)}
    {cd_Days : ClassData}
    {f_Days_none : Addr}
    {p_Days_none : Addr}
    {rest_Days_none : List Value}
    {oc_Days_none : Value}
    {kV_Days_none : Value}
    {dc_Days_none : Value}
    {pm_Days_none : Value}
    {cd_Days_none : Value}
    {ct_Days_none : Value}
    {od_Days_none : Option Addr}
    {an_Days_none : Option Addr}
    {sl_Days_none : Array (Option Value)}
    {f_Days_period : Addr}
    {p_Days_period : Addr}
    {rest_Days_period : List Value}
    {oc_Days_period : Value}
    {kV_Days_period : Value}
    {dc_Days_period : Value}
    {pm_Days_period : Value}
    {cd_Days_period : Value}
    {ct_Days_period : Value}
    {od_Days_period : Option Addr}
    {an_Days_period : Option Addr}
    {sl_Days_period : Array (Option Value)}
    {c_Stay : Addr}
    {f_Stay___init__ : Addr}
    {oc_Stay___init__ : Value}
    {kV_Stay___init__ : Value}
    {dc_Stay___init__ : Value}
    {pm_Stay___init__ : Value}
    {cd_Stay___init__ : Value}
    {ct_Stay___init__ : Value}
    {od_Stay___init__ : Option Addr}
    {an_Stay___init__ : Option Addr}
    {sl_Stay___init__ : Array (Option Value)}
    {f_Stay___len__ : Addr}
    {oc_Stay___len__ : Value}
    {kV_Stay___len__ : Value}
    {dc_Stay___len__ : Value}
    {pm_Stay___len__ : Value}
    {cd_Stay___len__ : Value}
    {ct_Stay___len__ : Value}
    {od_Stay___len__ : Option Addr}
    {an_Stay___len__ : Option Addr}
    {sl_Stay___len__ : Array (Option Value)}
    {f_Stay___iter__ : Addr}
    {oc_Stay___iter__ : Value}
    {kV_Stay___iter__ : Value}
    {dc_Stay___iter__ : Value}
    {pm_Stay___iter__ : Value}
    {cd_Stay___iter__ : Value}
    {ct_Stay___iter__ : Value}
    {od_Stay___iter__ : Option Addr}
    {an_Stay___iter__ : Option Addr}
    {sl_Stay___iter__ : Array (Option Value)}
    {f_Stay___rshift__ : Addr}
    {oc_Stay___rshift__ : Value}
    {kV_Stay___rshift__ : Value}
    {dc_Stay___rshift__ : Value}
    {pm_Stay___rshift__ : Value}
    {cd_Stay___rshift__ : Value}
    {ct_Stay___rshift__ : Value}
    {od_Stay___rshift__ : Option Addr}
    {an_Stay___rshift__ : Option Addr}
    {sl_Stay___rshift__ : Array (Option Value)}
    {f_Stay___lshift__ : Addr}
    {oc_Stay___lshift__ : Value}
    {kV_Stay___lshift__ : Value}
    {dc_Stay___lshift__ : Value}
    {pm_Stay___lshift__ : Value}
    {cd_Stay___lshift__ : Value}
    {ct_Stay___lshift__ : Value}
    {od_Stay___lshift__ : Option Addr}
    {an_Stay___lshift__ : Option Addr}
    {sl_Stay___lshift__ : Array (Option Value)}
    {f_Stay___floordiv__ : Addr}
    {oc_Stay___floordiv__ : Value}
    {kV_Stay___floordiv__ : Value}
    {dc_Stay___floordiv__ : Value}
    {pm_Stay___floordiv__ : Value}
    {cd_Stay___floordiv__ : Value}
    {ct_Stay___floordiv__ : Value}
    {od_Stay___floordiv__ : Option Addr}
    {an_Stay___floordiv__ : Option Addr}
    {sl_Stay___floordiv__ : Array (Option Value)}
    {f_Stay_meets : Addr}
    {oc_Stay_meets : Value}
    {kV_Stay_meets : Value}
    {dc_Stay_meets : Value}
    {pm_Stay_meets : Value}
    {cd_Stay_meets : Value}
    {ct_Stay_meets : Value}
    {od_Stay_meets : Option Addr}
    {an_Stay_meets : Option Addr}
    {sl_Stay_meets : Array (Option Value)}
    {c_Lengths : Addr}
    {f_Lengths___init__ : Addr}
    {oc_Lengths___init__ : Value}
    {kV_Lengths___init__ : Value}
    {dc_Lengths___init__ : Value}
    {pm_Lengths___init__ : Value}
    {cd_Lengths___init__ : Value}
    {ct_Lengths___init__ : Value}
    {od_Lengths___init__ : Option Addr}
    {an_Lengths___init__ : Option Addr}
    {sl_Lengths___init__ : Array (Option Value)}
    {dt_Lengths___init__ : Addr}
    {tk_Lengths___init__ : Tok}
    {nt_Lengths___init__ : Nat}
    {ot_Lengths___init__ : Option Addr}
    {st_Lengths___init__ : Array (Option Value)}
    {dl_Lengths___init__ : Addr}
    {dr_Lengths___init__ : Addr}
    {ndl_Lengths___init__ : Nat}
    {odl_Lengths___init__ : Option Addr}
    {sdl_Lengths___init__ : Array (Option Value)}
    {ndr_Lengths___init__ : Nat}
    {odr_Lengths___init__ : Option Addr}
    {sdr_Lengths___init__ : Array (Option Value)}
    {f_Lengths___eq__ : Addr}
    {oc_Lengths___eq__ : Value}
    {kV_Lengths___eq__ : Value}
    {dc_Lengths___eq__ : Value}
    {pm_Lengths___eq__ : Value}
    {cd_Lengths___eq__ : Value}
    {ct_Lengths___eq__ : Value}
    {od_Lengths___eq__ : Option Addr}
    {an_Lengths___eq__ : Option Addr}
    {sl_Lengths___eq__ : Array (Option Value)}
    {f_Lengths___contains__ : Addr}
    {oc_Lengths___contains__ : Value}
    {kV_Lengths___contains__ : Value}
    {dc_Lengths___contains__ : Value}
    {pm_Lengths___contains__ : Value}
    {cd_Lengths___contains__ : Value}
    {ct_Lengths___contains__ : Value}
    {od_Lengths___contains__ : Option Addr}
    {an_Lengths___contains__ : Option Addr}
    {sl_Lengths___contains__ : Array (Option Value)}
    {f_Lengths___or__ : Addr}
    {oc_Lengths___or__ : Value}
    {kV_Lengths___or__ : Value}
    {dc_Lengths___or__ : Value}
    {pm_Lengths___or__ : Value}
    {cd_Lengths___or__ : Value}
    {ct_Lengths___or__ : Value}
    {od_Lengths___or__ : Option Addr}
    {an_Lengths___or__ : Option Addr}
    {sl_Lengths___or__ : Array (Option Value)}
    {f_Lengths___sub__ : Addr}
    {oc_Lengths___sub__ : Value}
    {kV_Lengths___sub__ : Value}
    {dc_Lengths___sub__ : Value}
    {pm_Lengths___sub__ : Value}
    {cd_Lengths___sub__ : Value}
    {ct_Lengths___sub__ : Value}
    {od_Lengths___sub__ : Option Addr}
    {an_Lengths___sub__ : Option Addr}
    {sl_Lengths___sub__ : Array (Option Value)}
    {f_Lengths_at_least : Addr}
    {oc_Lengths_at_least : Value}
    {kV_Lengths_at_least : Value}
    {dc_Lengths_at_least : Value}
    {pm_Lengths_at_least : Value}
    {cd_Lengths_at_least : Value}
    {ct_Lengths_at_least : Value}
    {od_Lengths_at_least : Option Addr}
    {an_Lengths_at_least : Option Addr}
    {sl_Lengths_at_least : Array (Option Value)}
    {f_Lengths_below : Addr}
    {oc_Lengths_below : Value}
    {kV_Lengths_below : Value}
    {dc_Lengths_below : Value}
    {pm_Lengths_below : Value}
    {cd_Lengths_below : Value}
    {ct_Lengths_below : Value}
    {od_Lengths_below : Option Addr}
    {an_Lengths_below : Option Addr}
    {sl_Lengths_below : Array (Option Value)}
    {f_Lengths_none : Addr}
    {p_Lengths_none : Addr}
    {rest_Lengths_none : List Value}
    {oc_Lengths_none : Value}
    {kV_Lengths_none : Value}
    {dc_Lengths_none : Value}
    {pm_Lengths_none : Value}
    {cd_Lengths_none : Value}
    {ct_Lengths_none : Value}
    {od_Lengths_none : Option Addr}
    {an_Lengths_none : Option Addr}
    {sl_Lengths_none : Array (Option Value)}
    {f_Lengths_of : Addr}
    {p_Lengths_of : Addr}
    {rest_Lengths_of : List Value}
    {oc_Lengths_of : Value}
    {kV_Lengths_of : Value}
    {dc_Lengths_of : Value}
    {pm_Lengths_of : Value}
    {cd_Lengths_of : Value}
    {ct_Lengths_of : Value}
    {od_Lengths_of : Option Addr}
    {an_Lengths_of : Option Addr}
    {sl_Lengths_of : Array (Option Value)}
    {f_Lengths_since : Addr}
    {p_Lengths_since : Addr}
    {rest_Lengths_since : List Value}
    {oc_Lengths_since : Value}
    {kV_Lengths_since : Value}
    {dc_Lengths_since : Value}
    {pm_Lengths_since : Value}
    {cd_Lengths_since : Value}
    {ct_Lengths_since : Value}
    {od_Lengths_since : Option Addr}
    {an_Lengths_since : Option Addr}
    {sl_Lengths_since : Array (Option Value)}
    {f_Lengths_start : Addr}
    {p_Lengths_start : Addr}
    {rest_Lengths_start : List Value}
    {oc_Lengths_start : Value}
    {kV_Lengths_start : Value}
    {dc_Lengths_start : Value}
    {pm_Lengths_start : Value}
    {cd_Lengths_start : Value}
    {ct_Lengths_start : Value}
    {od_Lengths_start : Option Addr}
    {an_Lengths_start : Option Addr}
    {sl_Lengths_start : Array (Option Value)}
    {f_Lengths_period : Addr}
    {p_Lengths_period : Addr}
    {rest_Lengths_period : List Value}
    {oc_Lengths_period : Value}
    {kV_Lengths_period : Value}
    {dc_Lengths_period : Value}
    {pm_Lengths_period : Value}
    {cd_Lengths_period : Value}
    {ct_Lengths_period : Value}
    {od_Lengths_period : Option Addr}
    {an_Lengths_period : Option Addr}
    {sl_Lengths_period : Array (Option Value)}
    {f__law_pen : Addr}
    {oc__law_pen : Value}
    {kV__law_pen : Value}
    {dc__law_pen : Value}
    {pm__law_pen : Value}
    {cd__law_pen : Value}
    {ct__law_pen : Value}
    {od__law_pen : Option Addr}
    {an__law_pen : Option Addr}
    {sl__law_pen : Array (Option Value)}
    {f__law_draw : Addr}
    {oc__law_draw : Value}
    {kV__law_draw : Value}
    {dc__law_draw : Value}
    {pm__law_draw : Value}
    {cd__law_draw : Value}
    {ct__law_draw : Value}
    {od__law_draw : Option Addr}
    {an__law_draw : Option Addr}
    {sl__law_draw : Array (Option Value)}
    {f__law_pick : Addr}
    {oc__law_pick : Value}
    {kV__law_pick : Value}
    {dc__law_pick : Value}
    {pm__law_pick : Value}
    {cd__law_pick : Value}
    {ct__law_pick : Value}
    {od__law_pick : Option Addr}
    {an__law_pick : Option Addr}
    {sl__law_pick : Array (Option Value)}
    {f__law_days : Addr}
    {oc__law_days : Value}
    {kV__law_days : Value}
    {dc__law_days : Value}
    {pm__law_days : Value}
    {cd__law_days : Value}
    {ct__law_days : Value}
    {od__law_days : Option Addr}
    {an__law_days : Option Addr}
    {sl__law_days : Array (Option Value)}
    {f__law_many : Addr}
    {oc__law_many : Value}
    {kV__law_many : Value}
    {dc__law_many : Value}
    {pm__law_many : Value}
    {cd__law_many : Value}
    {ct__law_many : Value}
    {od__law_many : Option Addr}
    {an__law_many : Option Addr}
    {sl__law_many : Array (Option Value)}
    {f__law_counts_right : Addr}
    {oc__law_counts_right : Value}
    {kV__law_counts_right : Value}
    {dc__law_counts_right : Value}
    {pm__law_counts_right : Value}
    {cd__law_counts_right : Value}
    {ct__law_counts_right : Value}
    {od__law_counts_right : Option Addr}
    {an__law_counts_right : Option Addr}
    {sl__law_counts_right : Array (Option Value)}
    {f__law_moved_right : Addr}
    {oc__law_moved_right : Value}
    {kV__law_moved_right : Value}
    {dc__law_moved_right : Value}
    {pm__law_moved_right : Value}
    {cd__law_moved_right : Value}
    {ct__law_moved_right : Value}
    {od__law_moved_right : Option Addr}
    {an__law_moved_right : Option Addr}
    {sl__law_moved_right : Array (Option Value)}
    {f__law_parts_right : Addr}
    {oc__law_parts_right : Value}
    {kV__law_parts_right : Value}
    {dc__law_parts_right : Value}
    {pm__law_parts_right : Value}
    {cd__law_parts_right : Value}
    {ct__law_parts_right : Value}
    {od__law_parts_right : Option Addr}
    {an__law_parts_right : Option Addr}
    {sl__law_parts_right : Array (Option Value)}
    {f__law_listed_right : Addr}
    {oc__law_listed_right : Value}
    {kV__law_listed_right : Value}
    {dc__law_listed_right : Value}
    {pm__law_listed_right : Value}
    {cd__law_listed_right : Value}
    {ct__law_listed_right : Value}
    {od__law_listed_right : Option Addr}
    {an__law_listed_right : Option Addr}
    {sl__law_listed_right : Array (Option Value)}
    {f_law : Addr}
    {oc_law : Value}
    {kV_law : Value}
    {dc_law : Value}
    {pm_law : Value}
    {cd_law : Value}
    {ct_law : Value}
    {od_law : Option Addr}
    {an_law : Option Addr}
    {sl_law : Array (Option Value)}
    {t_LAST_DAY : Tok}
    {t_Days_MOST : Tok}
    {t_Stay_MOST : Tok}
    {t_Lengths_MOST : Tok}
    (a_is_whole : PySem.W.nsIn K mainGlobals "is_whole" = some (some (.ref f_is_whole)))
    (l_is_whole : K.lookup f_is_whole = some ⟨oc_is_whole, od_is_whole, .func (PySem.W.fnOf "is_whole" "is_whole" (defArgs s_is_whole) (defBody s_is_whole) (defScope s_is_whole) .none kV_is_whole dc_is_whole pm_is_whole an_is_whole cd_is_whole ct_is_whole), sl_is_whole⟩)
    (c_is_whole_ : PySem.W.codeIn K cd_is_whole "is_whole" = true)
    (k_is_whole : PySem.W.keepIn K (.ref f_is_whole) = true)
    (a_is_from : PySem.W.nsIn K mainGlobals "is_from" = some (some (.ref f_is_from)))
    (l_is_from : K.lookup f_is_from = some ⟨oc_is_from, od_is_from, .func (PySem.W.fnOf "is_from" "is_from" (defArgs s_is_from) (defBody s_is_from) (defScope s_is_from) .none kV_is_from dc_is_from pm_is_from an_is_from cd_is_from ct_is_from), sl_is_from⟩)
    (c_is_from_ : PySem.W.codeIn K cd_is_from "is_from" = true)
    (k_is_from : PySem.W.keepIn K (.ref f_is_from) = true)
    (a_is_day : PySem.W.nsIn K mainGlobals "is_day" = some (some (.ref f_is_day)))
    (l_is_day : K.lookup f_is_day = some ⟨oc_is_day, od_is_day, .func (PySem.W.fnOf "is_day" "is_day" (defArgs s_is_day) (defBody s_is_day) (defScope s_is_day) .none kV_is_day dc_is_day pm_is_day an_is_day cd_is_day ct_is_day), sl_is_day⟩)
    (c_is_day_ : PySem.W.codeIn K cd_is_day "is_day" = true)
    (k_is_day : PySem.W.keepIn K (.ref f_is_day) = true)
    (a_are_from : PySem.W.nsIn K mainGlobals "are_from" = some (some (.ref f_are_from)))
    (l_are_from : K.lookup f_are_from = some ⟨oc_are_from, od_are_from, .func (PySem.W.fnOf "are_from" "are_from" (defArgs s_are_from) (defBody s_are_from) (defScope s_are_from) .none kV_are_from dc_are_from pm_are_from an_are_from cd_are_from ct_are_from), sl_are_from⟩)
    (c_are_from_ : PySem.W.codeIn K cd_are_from "are_from" = true)
    (k_are_from : PySem.W.keepIn K (.ref f_are_from) = true)
    (a_marked : PySem.W.nsIn K mainGlobals "marked" = some (some (.ref f_marked)))
    (l_marked : K.lookup f_marked = some ⟨oc_marked, od_marked, .func (PySem.W.fnOf "marked" "marked" (defArgs s_marked) (defBody s_marked) (defScope s_marked) .none kV_marked dc_marked pm_marked an_marked cd_marked ct_marked), sl_marked⟩)
    (c_marked_ : PySem.W.codeIn K cd_marked "marked" = true)
    (k_marked : PySem.W.keepIn K (.ref f_marked) = true)
    (a_least_period : PySem.W.nsIn K mainGlobals "least_period" = some (some (.ref f_least_period)))
    (l_least_period : K.lookup f_least_period = some ⟨oc_least_period, od_least_period, .func (PySem.W.fnOf "least_period" "least_period" (defArgs s_least_period) (defBody s_least_period) (defScope s_least_period) .none kV_least_period dc_least_period pm_least_period an_least_period cd_least_period ct_least_period), sl_least_period⟩)
    (c_least_period_ : PySem.W.codeIn K cd_least_period "least_period" = true)
    (k_least_period : PySem.W.keepIn K (.ref f_least_period) = true)
    (a_common_period : PySem.W.nsIn K mainGlobals "common_period" = some (some (.ref f_common_period)))
    (l_common_period : K.lookup f_common_period = some ⟨oc_common_period, od_common_period, .func (PySem.W.fnOf "common_period" "common_period" (defArgs s_common_period) (defBody s_common_period) (defScope s_common_period) .none kV_common_period dc_common_period pm_common_period an_common_period cd_common_period ct_common_period), sl_common_period⟩)
    (c_common_period_ : PySem.W.codeIn K cd_common_period "common_period" = true)
    (k_common_period : PySem.W.keepIn K (.ref f_common_period) = true)
    (a_check_parts : PySem.W.nsIn K mainGlobals "check_parts" = some (some (.ref f_check_parts)))
    (l_check_parts : K.lookup f_check_parts = some ⟨oc_check_parts, od_check_parts, .func (PySem.W.fnOf "check_parts" "check_parts" (defArgs s_check_parts) (defBody s_check_parts) (defScope s_check_parts) .none kV_check_parts dc_check_parts pm_check_parts an_check_parts cd_check_parts ct_check_parts), sl_check_parts⟩)
    (c_check_parts_ : PySem.W.codeIn K cd_check_parts "check_parts" = true)
    (k_check_parts : PySem.W.keepIn K (.ref f_check_parts) = true)
    (a_check_size : PySem.W.nsIn K mainGlobals "check_size" = some (some (.ref f_check_size)))
    (l_check_size : K.lookup f_check_size = some ⟨oc_check_size, od_check_size, .func (PySem.W.fnOf "check_size" "check_size" (defArgs s_check_size) (defBody s_check_size) (defScope s_check_size) .none kV_check_size dc_check_size pm_check_size an_check_size cd_check_size ct_check_size), sl_check_size⟩)
    (c_check_size_ : PySem.W.codeIn K cd_check_size "check_size" = true)
    (k_check_size : PySem.W.keepIn K (.ref f_check_size) = true)
    (a_check_argument : PySem.W.nsIn K mainGlobals "check_argument" = some (some (.ref f_check_argument)))
    (l_check_argument : K.lookup f_check_argument = some ⟨oc_check_argument, od_check_argument, .func (PySem.W.fnOf "check_argument" "check_argument" (defArgs s_check_argument) (defBody s_check_argument) (defScope s_check_argument) .none kV_check_argument dc_check_argument pm_check_argument an_check_argument cd_check_argument ct_check_argument), sl_check_argument⟩)
    (c_check_argument_ : PySem.W.codeIn K cd_check_argument "check_argument" = true)
    (k_check_argument : PySem.W.keepIn K (.ref f_check_argument) = true)
    (a_check_number : PySem.W.nsIn K mainGlobals "check_number" = some (some (.ref f_check_number)))
    (l_check_number : K.lookup f_check_number = some ⟨oc_check_number, od_check_number, .func (PySem.W.fnOf "check_number" "check_number" (defArgs s_check_number) (defBody s_check_number) (defScope s_check_number) .none kV_check_number dc_check_number pm_check_number an_check_number cd_check_number ct_check_number), sl_check_number⟩)
    (c_check_number_ : PySem.W.codeIn K cd_check_number "check_number" = true)
    (k_check_number : PySem.W.keepIn K (.ref f_check_number) = true)
    (a_common_form : PySem.W.nsIn K mainGlobals "common_form" = some (some (.ref f_common_form)))
    (l_common_form : K.lookup f_common_form = some ⟨oc_common_form, od_common_form, .func (PySem.W.fnOf "common_form" "common_form" (defArgs s_common_form) (defBody s_common_form) (defScope s_common_form) .none kV_common_form dc_common_form pm_common_form an_common_form cd_common_form ct_common_form), sl_common_form⟩)
    (c_common_form_ : PySem.W.codeIn K cd_common_form "common_form" = true)
    (k_common_form : PySem.W.keepIn K (.ref f_common_form) = true)
    (a_gathered : PySem.W.nsIn K mainGlobals "gathered" = some (some (.ref f_gathered)))
    (l_gathered : K.lookup f_gathered = some ⟨oc_gathered, od_gathered, .func (PySem.W.fnOf "gathered" "gathered" (defArgs s_gathered) (defBody s_gathered) (defScope s_gathered) .none kV_gathered dc_gathered pm_gathered an_gathered cd_gathered ct_gathered), sl_gathered⟩)
    (c_gathered_ : PySem.W.codeIn K cd_gathered "gathered" = true)
    (k_gathered : PySem.W.keepIn K (.ref f_gathered) = true)
    (a_StayError : PySem.W.nsIn K mainGlobals "StayError" = some (some (.ref c_StayError)))
    (a_BadDays : PySem.W.nsIn K mainGlobals "BadDays" = some (some (.ref c_BadDays)))
    (h_BadDays_l : K.lookup c_BadDays = some (excClassObj nm_BadDays q_BadDays c_BadDays N_BadDays bs_BadDays bm_BadDays true sn_BadDays sub_BadDays ab_BadDays col_BadDays dd_BadDays m0_BadDays m1_BadDays m2_BadDays m3_BadDays m5_BadDays "ValueError.__new__"))
    (h_BadDays_bm : PySem.HandSPX.refsVE bm_BadDays = true)
    (h_BadDays_sa : PySem.W.findIn K (.ref c_BadDays) "__setattr__" = some (some (.builtin "object.__setattr__")))
    (h_BadDays_ex : PySem.W.subIn K (.ref c_BadDays) (.type "BaseException") = some true)
    (h_BadDays_ty : PySem.W.typeIn K (.ref c_BadDays) = some (.type "type"))
    (h_BadDays_kp : PySem.W.keepIn K (.ref c_BadDays) = true)
    (h_BadDays_ga : PySem.W.findIn K (.ref c_BadDays) "__getattribute__" = some (some (.builtin "BaseException.__getattribute__")))
    (h_BadDays_gg : PySem.W.findIn K (.ref c_BadDays) "__getattr__" = some none)
    (h_BadDays_hd : PySem.W.hasDictIn K c_BadDays = true)
    (h_BadDays_cls : PySem.W.findIn K (.ref c_BadDays) "__class__" = some (some (.builtin "object.__class__")))
    (h_BadDays_mro : PySem.W.mroIn K c_BadDays (.type "object") = some true)
    (h_cget : PySem.W.specialIn K (.builtin "object.__class__") "__get__" = some (some (.builtin "getset_descriptor.__get__")))
    (h_ctak : PySem.W.takesIn K (.builtin "object.__class__") = some true)
    (h_nx_BadDays_part : PySem.W.findIn K (.ref c_BadDays) "part" = some none)
    (a_BadDays___init__ : PySem.W.findIn K (.ref c_BadDays) "__init__" = some (some (.ref f_BadDays___init__)))
    (i_BadDays___init__ : PySem.W.isFn K (.ref f_BadDays___init__) = true)
    (l_BadDays___init__ : K.lookup f_BadDays___init__ = some ⟨oc_BadDays___init__, od_BadDays___init__, .func (PySem.W.fnOf "__init__" "BadDays.__init__" (defArgs s_BadDays___init__) (defBody s_BadDays___init__) (defScope s_BadDays___init__) .none kV_BadDays___init__ dc_BadDays___init__ pm_BadDays___init__ an_BadDays___init__ cd_BadDays___init__ ct_BadDays___init__), sl_BadDays___init__⟩)
    (c_BadDays___init___ : PySem.W.codeIn K cd_BadDays___init__ "BadDays.__init__" = true)
    (k_BadDays___init__ : PySem.W.keepIn K (.ref f_BadDays___init__) = true)
    (t_BadDays___init__ : PySem.W.typeIn K (.ref f_BadDays___init__) = some (.type "function"))
    (a_BadStay : PySem.W.nsIn K mainGlobals "BadStay" = some (some (.ref c_BadStay)))
    (h_BadStay_l : K.lookup c_BadStay = some (excClassObj nm_BadStay q_BadStay c_BadStay N_BadStay bs_BadStay bm_BadStay true sn_BadStay sub_BadStay ab_BadStay col_BadStay dd_BadStay m0_BadStay m1_BadStay m2_BadStay m3_BadStay m5_BadStay "ValueError.__new__"))
    (h_BadStay_bm : PySem.HandSPX.refsVE bm_BadStay = true)
    (h_BadStay_sa : PySem.W.findIn K (.ref c_BadStay) "__setattr__" = some (some (.builtin "object.__setattr__")))
    (h_BadStay_ex : PySem.W.subIn K (.ref c_BadStay) (.type "BaseException") = some true)
    (h_BadStay_ty : PySem.W.typeIn K (.ref c_BadStay) = some (.type "type"))
    (h_BadStay_kp : PySem.W.keepIn K (.ref c_BadStay) = true)
    (h_BadStay_ga : PySem.W.findIn K (.ref c_BadStay) "__getattribute__" = some (some (.builtin "BaseException.__getattribute__")))
    (h_BadStay_gg : PySem.W.findIn K (.ref c_BadStay) "__getattr__" = some none)
    (h_BadStay_hd : PySem.W.hasDictIn K c_BadStay = true)
    (h_BadStay_cls : PySem.W.findIn K (.ref c_BadStay) "__class__" = some (some (.builtin "object.__class__")))
    (h_BadStay_mro : PySem.W.mroIn K c_BadStay (.type "object") = some true)
    (h_nx_BadStay_part : PySem.W.findIn K (.ref c_BadStay) "part" = some none)
    (a_BadStay___init__ : PySem.W.findIn K (.ref c_BadStay) "__init__" = some (some (.ref f_BadStay___init__)))
    (i_BadStay___init__ : PySem.W.isFn K (.ref f_BadStay___init__) = true)
    (l_BadStay___init__ : K.lookup f_BadStay___init__ = some ⟨oc_BadStay___init__, od_BadStay___init__, .func (PySem.W.fnOf "__init__" "BadStay.__init__" (defArgs s_BadStay___init__) (defBody s_BadStay___init__) (defScope s_BadStay___init__) .none kV_BadStay___init__ dc_BadStay___init__ pm_BadStay___init__ an_BadStay___init__ cd_BadStay___init__ ct_BadStay___init__), sl_BadStay___init__⟩)
    (c_BadStay___init___ : PySem.W.codeIn K cd_BadStay___init__ "BadStay.__init__" = true)
    (k_BadStay___init__ : PySem.W.keepIn K (.ref f_BadStay___init__) = true)
    (t_BadStay___init__ : PySem.W.typeIn K (.ref f_BadStay___init__) = some (.type "function"))
    (a_TooMany : PySem.W.nsIn K mainGlobals "TooMany" = some (some (.ref c_TooMany)))
    (h_TooMany_l : K.lookup c_TooMany = some (excClassObj nm_TooMany q_TooMany c_TooMany N_TooMany bs_TooMany bm_TooMany true sn_TooMany sub_TooMany ab_TooMany col_TooMany dd_TooMany m0_TooMany m1_TooMany m2_TooMany m3_TooMany m5_TooMany "ValueError.__new__"))
    (h_TooMany_bm : PySem.HandSPX.refsVE bm_TooMany = true)
    (h_TooMany_sa : PySem.W.findIn K (.ref c_TooMany) "__setattr__" = some (some (.builtin "object.__setattr__")))
    (h_TooMany_ex : PySem.W.subIn K (.ref c_TooMany) (.type "BaseException") = some true)
    (h_TooMany_ty : PySem.W.typeIn K (.ref c_TooMany) = some (.type "type"))
    (h_TooMany_kp : PySem.W.keepIn K (.ref c_TooMany) = true)
    (h_TooMany_ga : PySem.W.findIn K (.ref c_TooMany) "__getattribute__" = some (some (.builtin "BaseException.__getattribute__")))
    (h_TooMany_gg : PySem.W.findIn K (.ref c_TooMany) "__getattr__" = some none)
    (h_TooMany_hd : PySem.W.hasDictIn K c_TooMany = true)
    (h_TooMany_cls : PySem.W.findIn K (.ref c_TooMany) "__class__" = some (some (.builtin "object.__class__")))
    (h_TooMany_mro : PySem.W.mroIn K c_TooMany (.type "object") = some true)
    (h_nx_TooMany_what : PySem.W.findIn K (.ref c_TooMany) "what" = some none)
    (h_nx_TooMany_most : PySem.W.findIn K (.ref c_TooMany) "most" = some none)
    (a_TooMany___init__ : PySem.W.findIn K (.ref c_TooMany) "__init__" = some (some (.ref f_TooMany___init__)))
    (i_TooMany___init__ : PySem.W.isFn K (.ref f_TooMany___init__) = true)
    (l_TooMany___init__ : K.lookup f_TooMany___init__ = some ⟨oc_TooMany___init__, od_TooMany___init__, .func (PySem.W.fnOf "__init__" "TooMany.__init__" (defArgs s_TooMany___init__) (defBody s_TooMany___init__) (defScope s_TooMany___init__) .none kV_TooMany___init__ dc_TooMany___init__ pm_TooMany___init__ an_TooMany___init__ cd_TooMany___init__ ct_TooMany___init__), sl_TooMany___init__⟩)
    (c_TooMany___init___ : PySem.W.codeIn K cd_TooMany___init__ "TooMany.__init__" = true)
    (k_TooMany___init__ : PySem.W.keepIn K (.ref f_TooMany___init__) = true)
    (t_TooMany___init__ : PySem.W.typeIn K (.ref f_TooMany___init__) = some (.type "function"))
    (a_Days : PySem.W.nsIn K mainGlobals "Days" = some (some (.ref c_Days)))
    (h_Days_pg : PySem.W.plainGet K c_Days Str.empty = true)
    (h_Days_hd : PySem.W.hasDictIn K c_Days = true)
    (h_Days_po : PySem.W.plainOver K c_Days = true)
    (h_Days_sa : PySem.W.findIn K (.ref c_Days) "__setattr__" = some (some (.builtin "object.__setattr__")))
    (h_Days_cls : PySem.W.findIn K (.ref c_Days) "__class__" = some (some (.builtin "object.__class__")))
    (h_Days_get : PySem.W.specialIn K (.builtin "object.__class__") "__get__" = some (some (.builtin "getset_descriptor.__get__")))
    (h_Days_tak : PySem.W.takesIn K (.builtin "object.__class__") = some true)
    (h_Days_mro : PySem.W.mroIn K c_Days (.type "object") = some true)
    (h_na_Days__period : PySem.W.findIn K (.ref c_Days) "_period" = some none)
    (h_na_Days__rests : PySem.W.findIn K (.ref c_Days) "_rests" = some none)
    (h_Days_mk : PySem.W.makesIn K c_Days = true)
    (h_Days_kp : PySem.W.keepIn K (.ref c_Days) = true)
    (a_Days___init__ : PySem.W.findIn K (.ref c_Days) "__init__" = some (some (.ref f_Days___init__)))
    (i_Days___init__ : PySem.W.isFn K (.ref f_Days___init__) = true)
    (l_Days___init__ : K.lookup f_Days___init__ = some ⟨oc_Days___init__, od_Days___init__, .func (PySem.W.fnOf "__init__" "Days.__init__" (defArgs s_Days___init__) (defBody s_Days___init__) (defScope s_Days___init__) .none kV_Days___init__ dc_Days___init__ pm_Days___init__ an_Days___init__ cd_Days___init__ ct_Days___init__), sl_Days___init__⟩)
    (c_Days___init___ : PySem.W.codeIn K cd_Days___init__ "Days.__init__" = true)
    (k_Days___init__ : PySem.W.keepIn K (.ref f_Days___init__) = true)
    (a_Days___eq__ : PySem.W.findIn K (.ref c_Days) "__eq__" = some (some (.ref f_Days___eq__)))
    (i_Days___eq__ : PySem.W.isFn K (.ref f_Days___eq__) = true)
    (l_Days___eq__ : K.lookup f_Days___eq__ = some ⟨oc_Days___eq__, od_Days___eq__, .func (PySem.W.fnOf "__eq__" "Days.__eq__" (defArgs s_Days___eq__) (defBody s_Days___eq__) (defScope s_Days___eq__) .none kV_Days___eq__ dc_Days___eq__ pm_Days___eq__ an_Days___eq__ cd_Days___eq__ ct_Days___eq__), sl_Days___eq__⟩)
    (c_Days___eq___ : PySem.W.codeIn K cd_Days___eq__ "Days.__eq__" = true)
    (k_Days___eq__ : PySem.W.keepIn K (.ref f_Days___eq__) = true)
    (a_Days___contains__ : PySem.W.findIn K (.ref c_Days) "__contains__" = some (some (.ref f_Days___contains__)))
    (i_Days___contains__ : PySem.W.isFn K (.ref f_Days___contains__) = true)
    (l_Days___contains__ : K.lookup f_Days___contains__ = some ⟨oc_Days___contains__, od_Days___contains__, .func (PySem.W.fnOf "__contains__" "Days.__contains__" (defArgs s_Days___contains__) (defBody s_Days___contains__) (defScope s_Days___contains__) .none kV_Days___contains__ dc_Days___contains__ pm_Days___contains__ an_Days___contains__ cd_Days___contains__ ct_Days___contains__), sl_Days___contains__⟩)
    (c_Days___contains___ : PySem.W.codeIn K cd_Days___contains__ "Days.__contains__" = true)
    (k_Days___contains__ : PySem.W.keepIn K (.ref f_Days___contains__) = true)
    (a_Days___and__ : PySem.W.findIn K (.ref c_Days) "__and__" = some (some (.ref f_Days___and__)))
    (i_Days___and__ : PySem.W.isFn K (.ref f_Days___and__) = true)
    (l_Days___and__ : K.lookup f_Days___and__ = some ⟨oc_Days___and__, od_Days___and__, .func (PySem.W.fnOf "__and__" "Days.__and__" (defArgs s_Days___and__) (defBody s_Days___and__) (defScope s_Days___and__) .none kV_Days___and__ dc_Days___and__ pm_Days___and__ an_Days___and__ cd_Days___and__ ct_Days___and__), sl_Days___and__⟩)
    (c_Days___and___ : PySem.W.codeIn K cd_Days___and__ "Days.__and__" = true)
    (k_Days___and__ : PySem.W.keepIn K (.ref f_Days___and__) = true)
    (a_Days___or__ : PySem.W.findIn K (.ref c_Days) "__or__" = some (some (.ref f_Days___or__)))
    (i_Days___or__ : PySem.W.isFn K (.ref f_Days___or__) = true)
    (l_Days___or__ : K.lookup f_Days___or__ = some ⟨oc_Days___or__, od_Days___or__, .func (PySem.W.fnOf "__or__" "Days.__or__" (defArgs s_Days___or__) (defBody s_Days___or__) (defScope s_Days___or__) .none kV_Days___or__ dc_Days___or__ pm_Days___or__ an_Days___or__ cd_Days___or__ ct_Days___or__), sl_Days___or__⟩)
    (c_Days___or___ : PySem.W.codeIn K cd_Days___or__ "Days.__or__" = true)
    (k_Days___or__ : PySem.W.keepIn K (.ref f_Days___or__) = true)
    (a_Days___sub__ : PySem.W.findIn K (.ref c_Days) "__sub__" = some (some (.ref f_Days___sub__)))
    (i_Days___sub__ : PySem.W.isFn K (.ref f_Days___sub__) = true)
    (l_Days___sub__ : K.lookup f_Days___sub__ = some ⟨oc_Days___sub__, od_Days___sub__, .func (PySem.W.fnOf "__sub__" "Days.__sub__" (defArgs s_Days___sub__) (defBody s_Days___sub__) (defScope s_Days___sub__) .none kV_Days___sub__ dc_Days___sub__ pm_Days___sub__ an_Days___sub__ cd_Days___sub__ ct_Days___sub__), sl_Days___sub__⟩)
    (c_Days___sub___ : PySem.W.codeIn K cd_Days___sub__ "Days.__sub__" = true)
    (k_Days___sub__ : PySem.W.keepIn K (.ref f_Days___sub__) = true)
    (a_Days___invert__ : PySem.W.findIn K (.ref c_Days) "__invert__" = some (some (.ref f_Days___invert__)))
    (i_Days___invert__ : PySem.W.isFn K (.ref f_Days___invert__) = true)
    (l_Days___invert__ : K.lookup f_Days___invert__ = some ⟨oc_Days___invert__, od_Days___invert__, .func (PySem.W.fnOf "__invert__" "Days.__invert__" (defArgs s_Days___invert__) (defBody s_Days___invert__) (defScope s_Days___invert__) .none kV_Days___invert__ dc_Days___invert__ pm_Days___invert__ an_Days___invert__ cd_Days___invert__ ct_Days___invert__), sl_Days___invert__⟩)
    (c_Days___invert___ : PySem.W.codeIn K cd_Days___invert__ "Days.__invert__" = true)
    (k_Days___invert__ : PySem.W.keepIn K (.ref f_Days___invert__) = true)
    (a_Days___rshift__ : PySem.W.findIn K (.ref c_Days) "__rshift__" = some (some (.ref f_Days___rshift__)))
    (i_Days___rshift__ : PySem.W.isFn K (.ref f_Days___rshift__) = true)
    (l_Days___rshift__ : K.lookup f_Days___rshift__ = some ⟨oc_Days___rshift__, od_Days___rshift__, .func (PySem.W.fnOf "__rshift__" "Days.__rshift__" (defArgs s_Days___rshift__) (defBody s_Days___rshift__) (defScope s_Days___rshift__) .none kV_Days___rshift__ dc_Days___rshift__ pm_Days___rshift__ an_Days___rshift__ cd_Days___rshift__ ct_Days___rshift__), sl_Days___rshift__⟩)
    (c_Days___rshift___ : PySem.W.codeIn K cd_Days___rshift__ "Days.__rshift__" = true)
    (k_Days___rshift__ : PySem.W.keepIn K (.ref f_Days___rshift__) = true)
    (a_Days___lshift__ : PySem.W.findIn K (.ref c_Days) "__lshift__" = some (some (.ref f_Days___lshift__)))
    (i_Days___lshift__ : PySem.W.isFn K (.ref f_Days___lshift__) = true)
    (l_Days___lshift__ : K.lookup f_Days___lshift__ = some ⟨oc_Days___lshift__, od_Days___lshift__, .func (PySem.W.fnOf "__lshift__" "Days.__lshift__" (defArgs s_Days___lshift__) (defBody s_Days___lshift__) (defScope s_Days___lshift__) .none kV_Days___lshift__ dc_Days___lshift__ pm_Days___lshift__ an_Days___lshift__ cd_Days___lshift__ ct_Days___lshift__), sl_Days___lshift__⟩)
    (c_Days___lshift___ : PySem.W.codeIn K cd_Days___lshift__ "Days.__lshift__" = true)
    (k_Days___lshift__ : PySem.W.keepIn K (.ref f_Days___lshift__) = true)
    (a_Days___le__ : PySem.W.findIn K (.ref c_Days) "__le__" = some (some (.ref f_Days___le__)))
    (i_Days___le__ : PySem.W.isFn K (.ref f_Days___le__) = true)
    (l_Days___le__ : K.lookup f_Days___le__ = some ⟨oc_Days___le__, od_Days___le__, .func (PySem.W.fnOf "__le__" "Days.__le__" (defArgs s_Days___le__) (defBody s_Days___le__) (defScope s_Days___le__) .none kV_Days___le__ dc_Days___le__ pm_Days___le__ an_Days___le__ cd_Days___le__ ct_Days___le__), sl_Days___le__⟩)
    (c_Days___le___ : PySem.W.codeIn K cd_Days___le__ "Days.__le__" = true)
    (k_Days___le__ : PySem.W.keepIn K (.ref f_Days___le__) = true)
    (a_Days_following : PySem.W.findIn K (.ref c_Days) "following" = some (some (.ref f_Days_following)))
    (i_Days_following : PySem.W.isFn K (.ref f_Days_following) = true)
    (l_Days_following : K.lookup f_Days_following = some ⟨oc_Days_following, od_Days_following, .func (PySem.W.fnOf "following" "Days.following" (defArgs s_Days_following) (defBody s_Days_following) (defScope s_Days_following) .none kV_Days_following dc_Days_following pm_Days_following an_Days_following cd_Days_following ct_Days_following), sl_Days_following⟩)
    (c_Days_following_ : PySem.W.codeIn K cd_Days_following "Days.following" = true)
    (k_Days_following : PySem.W.keepIn K (.ref f_Days_following) = true)
    (h_Days_ne : PySem.W.findIn K (.ref c_Days) "__ne__" = some (some (.builtin "object.__ne__")))
    (h_Days_sf : PySem.W.selfFirst K c_Days = true)
    (h_Days_rand : PySem.W.findIn K (.ref c_Days) "__rand__" = some none)
    (h_Days_iand : PySem.W.findIn K (.ref c_Days) "__iand__" = some none)
    (h_Days_cd : PySem.W.clsIn K c_Days = some cd_Days)
    (h_Days_cm : cd_Days.mro = [.ref c_Days, .type "object"])
    (h_Days_ror : PySem.W.findIn K (.ref c_Days) "__ror__" = some none)
    (h_Days_ior : PySem.W.findIn K (.ref c_Days) "__ior__" = some none)
    (h_Days_rsub : PySem.W.findIn K (.ref c_Days) "__rsub__" = some none)
    (h_Days_isub : PySem.W.findIn K (.ref c_Days) "__isub__" = some none)
    (h_Days_rrshift : PySem.W.findIn K (.ref c_Days) "__rrshift__" = some none)
    (h_Days_rlshift : PySem.W.findIn K (.ref c_Days) "__rlshift__" = some none)
    (h_Days_rd : PySem.W.readsIn K c_Days (.type "type") = true)
    (h_Days_tg : PySem.W.specialIn K (.ref c_Days) "__getattribute__" = some (some (.builtin "type.__getattribute__")))
    (ca_Days_none : PySem.W.findCls K (.ref c_Days) (.type "type") "none" = some (.get (.builtin "staticmethod.__get__") (.ref p_Days_none) .none (.ref c_Days)))
    (cr_Days_none : PySem.W.recIn K p_Days_none "staticmethod" = some (.ref f_Days_none :: rest_Days_none))
    (l_Days_none : K.lookup f_Days_none = some ⟨oc_Days_none, od_Days_none, .func (PySem.W.fnOf "none" "Days.none" (defArgs s_Days_none) (defBody s_Days_none) (defScope s_Days_none) .none kV_Days_none dc_Days_none pm_Days_none an_Days_none cd_Days_none ct_Days_none), sl_Days_none⟩)
    (c_Days_none_ : PySem.W.codeIn K cd_Days_none "Days.none" = true)
    (k_Days_none : PySem.W.keepIn K (.ref f_Days_none) = true)
    (pa_Days_period : PySem.W.findIn K (.ref c_Days) "period" = some (some (.ref p_Days_period)))
    (pg_Days_period : PySem.W.specialIn K (.ref p_Days_period) "__get__" = some (some (.builtin "property.__get__")))
    (pt_Days_period : PySem.W.takesIn K (.ref p_Days_period) = some true)
    (pr_Days_period : PySem.W.recIn K p_Days_period "property" = some (.ref f_Days_period :: rest_Days_period))
    (l_Days_period : K.lookup f_Days_period = some ⟨oc_Days_period, od_Days_period, .func (PySem.W.fnOf "period" "Days.period" (defArgs s_Days_period) (defBody s_Days_period) (defScope s_Days_period) .none kV_Days_period dc_Days_period pm_Days_period an_Days_period cd_Days_period ct_Days_period), sl_Days_period⟩)
    (c_Days_period_ : PySem.W.codeIn K cd_Days_period "Days.period" = true)
    (k_Days_period : PySem.W.keepIn K (.ref f_Days_period) = true)
    (a_Stay : PySem.W.nsIn K mainGlobals "Stay" = some (some (.ref c_Stay)))
    (h_Stay_pg : PySem.W.plainGet K c_Stay Str.empty = true)
    (h_Stay_hd : PySem.W.hasDictIn K c_Stay = true)
    (h_Stay_po : PySem.W.plainOver K c_Stay = true)
    (h_Stay_sa : PySem.W.findIn K (.ref c_Stay) "__setattr__" = some (some (.builtin "object.__setattr__")))
    (h_Stay_cls : PySem.W.findIn K (.ref c_Stay) "__class__" = some (some (.builtin "object.__class__")))
    (h_Stay_get : PySem.W.specialIn K (.builtin "object.__class__") "__get__" = some (some (.builtin "getset_descriptor.__get__")))
    (h_Stay_tak : PySem.W.takesIn K (.builtin "object.__class__") = some true)
    (h_Stay_mro : PySem.W.mroIn K c_Stay (.type "object") = some true)
    (h_na_Stay_first : PySem.W.findIn K (.ref c_Stay) "first" = some none)
    (h_na_Stay_after : PySem.W.findIn K (.ref c_Stay) "after" = some none)
    (h_na_Stay__nights : PySem.W.findIn K (.ref c_Stay) "_nights" = some none)
    (h_Stay_mk : PySem.W.makesIn K c_Stay = true)
    (h_Stay_kp : PySem.W.keepIn K (.ref c_Stay) = true)
    (a_Stay___init__ : PySem.W.findIn K (.ref c_Stay) "__init__" = some (some (.ref f_Stay___init__)))
    (i_Stay___init__ : PySem.W.isFn K (.ref f_Stay___init__) = true)
    (l_Stay___init__ : K.lookup f_Stay___init__ = some ⟨oc_Stay___init__, od_Stay___init__, .func (PySem.W.fnOf "__init__" "Stay.__init__" (defArgs s_Stay___init__) (defBody s_Stay___init__) (defScope s_Stay___init__) .none kV_Stay___init__ dc_Stay___init__ pm_Stay___init__ an_Stay___init__ cd_Stay___init__ ct_Stay___init__), sl_Stay___init__⟩)
    (c_Stay___init___ : PySem.W.codeIn K cd_Stay___init__ "Stay.__init__" = true)
    (k_Stay___init__ : PySem.W.keepIn K (.ref f_Stay___init__) = true)
    (a_Stay___len__ : PySem.W.findIn K (.ref c_Stay) "__len__" = some (some (.ref f_Stay___len__)))
    (i_Stay___len__ : PySem.W.isFn K (.ref f_Stay___len__) = true)
    (l_Stay___len__ : K.lookup f_Stay___len__ = some ⟨oc_Stay___len__, od_Stay___len__, .func (PySem.W.fnOf "__len__" "Stay.__len__" (defArgs s_Stay___len__) (defBody s_Stay___len__) (defScope s_Stay___len__) .none kV_Stay___len__ dc_Stay___len__ pm_Stay___len__ an_Stay___len__ cd_Stay___len__ ct_Stay___len__), sl_Stay___len__⟩)
    (c_Stay___len___ : PySem.W.codeIn K cd_Stay___len__ "Stay.__len__" = true)
    (k_Stay___len__ : PySem.W.keepIn K (.ref f_Stay___len__) = true)
    (a_Stay___iter__ : PySem.W.findIn K (.ref c_Stay) "__iter__" = some (some (.ref f_Stay___iter__)))
    (i_Stay___iter__ : PySem.W.isFn K (.ref f_Stay___iter__) = true)
    (l_Stay___iter__ : K.lookup f_Stay___iter__ = some ⟨oc_Stay___iter__, od_Stay___iter__, .func (PySem.W.fnOf "__iter__" "Stay.__iter__" (defArgs s_Stay___iter__) (defBody s_Stay___iter__) (defScope s_Stay___iter__) .none kV_Stay___iter__ dc_Stay___iter__ pm_Stay___iter__ an_Stay___iter__ cd_Stay___iter__ ct_Stay___iter__), sl_Stay___iter__⟩)
    (c_Stay___iter___ : PySem.W.codeIn K cd_Stay___iter__ "Stay.__iter__" = true)
    (k_Stay___iter__ : PySem.W.keepIn K (.ref f_Stay___iter__) = true)
    (a_Stay___rshift__ : PySem.W.findIn K (.ref c_Stay) "__rshift__" = some (some (.ref f_Stay___rshift__)))
    (i_Stay___rshift__ : PySem.W.isFn K (.ref f_Stay___rshift__) = true)
    (l_Stay___rshift__ : K.lookup f_Stay___rshift__ = some ⟨oc_Stay___rshift__, od_Stay___rshift__, .func (PySem.W.fnOf "__rshift__" "Stay.__rshift__" (defArgs s_Stay___rshift__) (defBody s_Stay___rshift__) (defScope s_Stay___rshift__) .none kV_Stay___rshift__ dc_Stay___rshift__ pm_Stay___rshift__ an_Stay___rshift__ cd_Stay___rshift__ ct_Stay___rshift__), sl_Stay___rshift__⟩)
    (c_Stay___rshift___ : PySem.W.codeIn K cd_Stay___rshift__ "Stay.__rshift__" = true)
    (k_Stay___rshift__ : PySem.W.keepIn K (.ref f_Stay___rshift__) = true)
    (a_Stay___lshift__ : PySem.W.findIn K (.ref c_Stay) "__lshift__" = some (some (.ref f_Stay___lshift__)))
    (i_Stay___lshift__ : PySem.W.isFn K (.ref f_Stay___lshift__) = true)
    (l_Stay___lshift__ : K.lookup f_Stay___lshift__ = some ⟨oc_Stay___lshift__, od_Stay___lshift__, .func (PySem.W.fnOf "__lshift__" "Stay.__lshift__" (defArgs s_Stay___lshift__) (defBody s_Stay___lshift__) (defScope s_Stay___lshift__) .none kV_Stay___lshift__ dc_Stay___lshift__ pm_Stay___lshift__ an_Stay___lshift__ cd_Stay___lshift__ ct_Stay___lshift__), sl_Stay___lshift__⟩)
    (c_Stay___lshift___ : PySem.W.codeIn K cd_Stay___lshift__ "Stay.__lshift__" = true)
    (k_Stay___lshift__ : PySem.W.keepIn K (.ref f_Stay___lshift__) = true)
    (a_Stay___floordiv__ : PySem.W.findIn K (.ref c_Stay) "__floordiv__" = some (some (.ref f_Stay___floordiv__)))
    (i_Stay___floordiv__ : PySem.W.isFn K (.ref f_Stay___floordiv__) = true)
    (l_Stay___floordiv__ : K.lookup f_Stay___floordiv__ = some ⟨oc_Stay___floordiv__, od_Stay___floordiv__, .func (PySem.W.fnOf "__floordiv__" "Stay.__floordiv__" (defArgs s_Stay___floordiv__) (defBody s_Stay___floordiv__) (defScope s_Stay___floordiv__) .none kV_Stay___floordiv__ dc_Stay___floordiv__ pm_Stay___floordiv__ an_Stay___floordiv__ cd_Stay___floordiv__ ct_Stay___floordiv__), sl_Stay___floordiv__⟩)
    (c_Stay___floordiv___ : PySem.W.codeIn K cd_Stay___floordiv__ "Stay.__floordiv__" = true)
    (k_Stay___floordiv__ : PySem.W.keepIn K (.ref f_Stay___floordiv__) = true)
    (a_Stay_meets : PySem.W.findIn K (.ref c_Stay) "meets" = some (some (.ref f_Stay_meets)))
    (i_Stay_meets : PySem.W.isFn K (.ref f_Stay_meets) = true)
    (l_Stay_meets : K.lookup f_Stay_meets = some ⟨oc_Stay_meets, od_Stay_meets, .func (PySem.W.fnOf "meets" "Stay.meets" (defArgs s_Stay_meets) (defBody s_Stay_meets) (defScope s_Stay_meets) .none kV_Stay_meets dc_Stay_meets pm_Stay_meets an_Stay_meets cd_Stay_meets ct_Stay_meets), sl_Stay_meets⟩)
    (c_Stay_meets_ : PySem.W.codeIn K cd_Stay_meets "Stay.meets" = true)
    (k_Stay_meets : PySem.W.keepIn K (.ref f_Stay_meets) = true)
    (h_Stay_sf : PySem.W.selfFirst K c_Stay = true)
    (h_Stay_rrshift : PySem.W.findIn K (.ref c_Stay) "__rrshift__" = some none)
    (h_Stay_rlshift : PySem.W.findIn K (.ref c_Stay) "__rlshift__" = some none)
    (h_Stay_rfloordiv : PySem.W.findIn K (.ref c_Stay) "__rfloordiv__" = some none)
    (a_Lengths : PySem.W.nsIn K mainGlobals "Lengths" = some (some (.ref c_Lengths)))
    (h_Lengths_pg : PySem.W.plainGet K c_Lengths Str.empty = true)
    (h_Lengths_hd : PySem.W.hasDictIn K c_Lengths = true)
    (h_Lengths_po : PySem.W.plainOver K c_Lengths = true)
    (h_Lengths_sa : PySem.W.findIn K (.ref c_Lengths) "__setattr__" = some (some (.builtin "object.__setattr__")))
    (h_Lengths_cls : PySem.W.findIn K (.ref c_Lengths) "__class__" = some (some (.builtin "object.__class__")))
    (h_Lengths_get : PySem.W.specialIn K (.builtin "object.__class__") "__get__" = some (some (.builtin "getset_descriptor.__get__")))
    (h_Lengths_tak : PySem.W.takesIn K (.builtin "object.__class__") = some true)
    (h_Lengths_mro : PySem.W.mroIn K c_Lengths (.type "object") = some true)
    (h_na_Lengths__start : PySem.W.findIn K (.ref c_Lengths) "_start" = some none)
    (h_na_Lengths__period : PySem.W.findIn K (.ref c_Lengths) "_period" = some none)
    (h_na_Lengths__low : PySem.W.findIn K (.ref c_Lengths) "_low" = some none)
    (h_na_Lengths__rests : PySem.W.findIn K (.ref c_Lengths) "_rests" = some none)
    (h_na_Lengths__marks : PySem.W.findIn K (.ref c_Lengths) "_marks" = some none)
    (h_Lengths_mk : PySem.W.makesIn K c_Lengths = true)
    (h_Lengths_kp : PySem.W.keepIn K (.ref c_Lengths) = true)
    (a_Lengths___init__ : PySem.W.findIn K (.ref c_Lengths) "__init__" = some (some (.ref f_Lengths___init__)))
    (i_Lengths___init__ : PySem.W.isFn K (.ref f_Lengths___init__) = true)
    (l_Lengths___init__ : K.lookup f_Lengths___init__ = some ⟨oc_Lengths___init__, od_Lengths___init__, .func (PySem.W.fnOf "__init__" "Lengths.__init__" (defArgs s_Lengths___init__) (defBody s_Lengths___init__) (defScope s_Lengths___init__) (.ref dt_Lengths___init__) kV_Lengths___init__ dc_Lengths___init__ pm_Lengths___init__ an_Lengths___init__ cd_Lengths___init__ ct_Lengths___init__), sl_Lengths___init__⟩)
    (c_Lengths___init___ : PySem.W.codeIn K cd_Lengths___init__ "Lengths.__init__" = true)
    (k_Lengths___init__ : PySem.W.keepIn K (.ref f_Lengths___init__) = true)
    (lt_Lengths___init__ : K.lookup dt_Lengths___init__ = some ⟨.type "tuple", ot_Lengths___init__, .seq #[.ref dl_Lengths___init__, .int 1 tk_Lengths___init__, .ref dr_Lengths___init__] nt_Lengths___init__, st_Lengths___init__⟩)
    (ldl_Lengths___init__ : K.lookup dl_Lengths___init__ = some ⟨.type "tuple", odl_Lengths___init__, .seq #[] ndl_Lengths___init__, sdl_Lengths___init__⟩)
    (ldr_Lengths___init__ : K.lookup dr_Lengths___init__ = some ⟨.type "tuple", odr_Lengths___init__, .seq #[] ndr_Lengths___init__, sdr_Lengths___init__⟩)
    (a_Lengths___eq__ : PySem.W.findIn K (.ref c_Lengths) "__eq__" = some (some (.ref f_Lengths___eq__)))
    (i_Lengths___eq__ : PySem.W.isFn K (.ref f_Lengths___eq__) = true)
    (l_Lengths___eq__ : K.lookup f_Lengths___eq__ = some ⟨oc_Lengths___eq__, od_Lengths___eq__, .func (PySem.W.fnOf "__eq__" "Lengths.__eq__" (defArgs s_Lengths___eq__) (defBody s_Lengths___eq__) (defScope s_Lengths___eq__) .none kV_Lengths___eq__ dc_Lengths___eq__ pm_Lengths___eq__ an_Lengths___eq__ cd_Lengths___eq__ ct_Lengths___eq__), sl_Lengths___eq__⟩)
    (c_Lengths___eq___ : PySem.W.codeIn K cd_Lengths___eq__ "Lengths.__eq__" = true)
    (k_Lengths___eq__ : PySem.W.keepIn K (.ref f_Lengths___eq__) = true)
    (a_Lengths___contains__ : PySem.W.findIn K (.ref c_Lengths) "__contains__" = some (some (.ref f_Lengths___contains__)))
    (i_Lengths___contains__ : PySem.W.isFn K (.ref f_Lengths___contains__) = true)
    (l_Lengths___contains__ : K.lookup f_Lengths___contains__ = some ⟨oc_Lengths___contains__, od_Lengths___contains__, .func (PySem.W.fnOf "__contains__" "Lengths.__contains__" (defArgs s_Lengths___contains__) (defBody s_Lengths___contains__) (defScope s_Lengths___contains__) .none kV_Lengths___contains__ dc_Lengths___contains__ pm_Lengths___contains__ an_Lengths___contains__ cd_Lengths___contains__ ct_Lengths___contains__), sl_Lengths___contains__⟩)
    (c_Lengths___contains___ : PySem.W.codeIn K cd_Lengths___contains__ "Lengths.__contains__" = true)
    (k_Lengths___contains__ : PySem.W.keepIn K (.ref f_Lengths___contains__) = true)
    (a_Lengths___or__ : PySem.W.findIn K (.ref c_Lengths) "__or__" = some (some (.ref f_Lengths___or__)))
    (i_Lengths___or__ : PySem.W.isFn K (.ref f_Lengths___or__) = true)
    (l_Lengths___or__ : K.lookup f_Lengths___or__ = some ⟨oc_Lengths___or__, od_Lengths___or__, .func (PySem.W.fnOf "__or__" "Lengths.__or__" (defArgs s_Lengths___or__) (defBody s_Lengths___or__) (defScope s_Lengths___or__) .none kV_Lengths___or__ dc_Lengths___or__ pm_Lengths___or__ an_Lengths___or__ cd_Lengths___or__ ct_Lengths___or__), sl_Lengths___or__⟩)
    (c_Lengths___or___ : PySem.W.codeIn K cd_Lengths___or__ "Lengths.__or__" = true)
    (k_Lengths___or__ : PySem.W.keepIn K (.ref f_Lengths___or__) = true)
    (a_Lengths___sub__ : PySem.W.findIn K (.ref c_Lengths) "__sub__" = some (some (.ref f_Lengths___sub__)))
    (i_Lengths___sub__ : PySem.W.isFn K (.ref f_Lengths___sub__) = true)
    (l_Lengths___sub__ : K.lookup f_Lengths___sub__ = some ⟨oc_Lengths___sub__, od_Lengths___sub__, .func (PySem.W.fnOf "__sub__" "Lengths.__sub__" (defArgs s_Lengths___sub__) (defBody s_Lengths___sub__) (defScope s_Lengths___sub__) .none kV_Lengths___sub__ dc_Lengths___sub__ pm_Lengths___sub__ an_Lengths___sub__ cd_Lengths___sub__ ct_Lengths___sub__), sl_Lengths___sub__⟩)
    (c_Lengths___sub___ : PySem.W.codeIn K cd_Lengths___sub__ "Lengths.__sub__" = true)
    (k_Lengths___sub__ : PySem.W.keepIn K (.ref f_Lengths___sub__) = true)
    (a_Lengths_at_least : PySem.W.findIn K (.ref c_Lengths) "at_least" = some (some (.ref f_Lengths_at_least)))
    (i_Lengths_at_least : PySem.W.isFn K (.ref f_Lengths_at_least) = true)
    (l_Lengths_at_least : K.lookup f_Lengths_at_least = some ⟨oc_Lengths_at_least, od_Lengths_at_least, .func (PySem.W.fnOf "at_least" "Lengths.at_least" (defArgs s_Lengths_at_least) (defBody s_Lengths_at_least) (defScope s_Lengths_at_least) .none kV_Lengths_at_least dc_Lengths_at_least pm_Lengths_at_least an_Lengths_at_least cd_Lengths_at_least ct_Lengths_at_least), sl_Lengths_at_least⟩)
    (c_Lengths_at_least_ : PySem.W.codeIn K cd_Lengths_at_least "Lengths.at_least" = true)
    (k_Lengths_at_least : PySem.W.keepIn K (.ref f_Lengths_at_least) = true)
    (a_Lengths_below : PySem.W.findIn K (.ref c_Lengths) "below" = some (some (.ref f_Lengths_below)))
    (i_Lengths_below : PySem.W.isFn K (.ref f_Lengths_below) = true)
    (l_Lengths_below : K.lookup f_Lengths_below = some ⟨oc_Lengths_below, od_Lengths_below, .func (PySem.W.fnOf "below" "Lengths.below" (defArgs s_Lengths_below) (defBody s_Lengths_below) (defScope s_Lengths_below) .none kV_Lengths_below dc_Lengths_below pm_Lengths_below an_Lengths_below cd_Lengths_below ct_Lengths_below), sl_Lengths_below⟩)
    (c_Lengths_below_ : PySem.W.codeIn K cd_Lengths_below "Lengths.below" = true)
    (k_Lengths_below : PySem.W.keepIn K (.ref f_Lengths_below) = true)
    (h_Lengths_ne : PySem.W.findIn K (.ref c_Lengths) "__ne__" = some (some (.builtin "object.__ne__")))
    (h_Lengths_sf : PySem.W.selfFirst K c_Lengths = true)
    (h_Lengths_ror : PySem.W.findIn K (.ref c_Lengths) "__ror__" = some none)
    (h_Lengths_rsub : PySem.W.findIn K (.ref c_Lengths) "__rsub__" = some none)
    (h_Lengths_rd : PySem.W.readsIn K c_Lengths (.type "type") = true)
    (h_Lengths_tg : PySem.W.specialIn K (.ref c_Lengths) "__getattribute__" = some (some (.builtin "type.__getattribute__")))
    (ca_Lengths_none : PySem.W.findCls K (.ref c_Lengths) (.type "type") "none" = some (.get (.builtin "staticmethod.__get__") (.ref p_Lengths_none) .none (.ref c_Lengths)))
    (cr_Lengths_none : PySem.W.recIn K p_Lengths_none "staticmethod" = some (.ref f_Lengths_none :: rest_Lengths_none))
    (l_Lengths_none : K.lookup f_Lengths_none = some ⟨oc_Lengths_none, od_Lengths_none, .func (PySem.W.fnOf "none" "Lengths.none" (defArgs s_Lengths_none) (defBody s_Lengths_none) (defScope s_Lengths_none) .none kV_Lengths_none dc_Lengths_none pm_Lengths_none an_Lengths_none cd_Lengths_none ct_Lengths_none), sl_Lengths_none⟩)
    (c_Lengths_none_ : PySem.W.codeIn K cd_Lengths_none "Lengths.none" = true)
    (k_Lengths_none : PySem.W.keepIn K (.ref f_Lengths_none) = true)
    (ca_Lengths_of : PySem.W.findCls K (.ref c_Lengths) (.type "type") "of" = some (.get (.builtin "staticmethod.__get__") (.ref p_Lengths_of) .none (.ref c_Lengths)))
    (cr_Lengths_of : PySem.W.recIn K p_Lengths_of "staticmethod" = some (.ref f_Lengths_of :: rest_Lengths_of))
    (l_Lengths_of : K.lookup f_Lengths_of = some ⟨oc_Lengths_of, od_Lengths_of, .func (PySem.W.fnOf "of" "Lengths.of" (defArgs s_Lengths_of) (defBody s_Lengths_of) (defScope s_Lengths_of) .none kV_Lengths_of dc_Lengths_of pm_Lengths_of an_Lengths_of cd_Lengths_of ct_Lengths_of), sl_Lengths_of⟩)
    (c_Lengths_of_ : PySem.W.codeIn K cd_Lengths_of "Lengths.of" = true)
    (k_Lengths_of : PySem.W.keepIn K (.ref f_Lengths_of) = true)
    (ca_Lengths_since : PySem.W.findCls K (.ref c_Lengths) (.type "type") "since" = some (.get (.builtin "staticmethod.__get__") (.ref p_Lengths_since) .none (.ref c_Lengths)))
    (cr_Lengths_since : PySem.W.recIn K p_Lengths_since "staticmethod" = some (.ref f_Lengths_since :: rest_Lengths_since))
    (l_Lengths_since : K.lookup f_Lengths_since = some ⟨oc_Lengths_since, od_Lengths_since, .func (PySem.W.fnOf "since" "Lengths.since" (defArgs s_Lengths_since) (defBody s_Lengths_since) (defScope s_Lengths_since) .none kV_Lengths_since dc_Lengths_since pm_Lengths_since an_Lengths_since cd_Lengths_since ct_Lengths_since), sl_Lengths_since⟩)
    (c_Lengths_since_ : PySem.W.codeIn K cd_Lengths_since "Lengths.since" = true)
    (k_Lengths_since : PySem.W.keepIn K (.ref f_Lengths_since) = true)
    (pa_Lengths_start : PySem.W.findIn K (.ref c_Lengths) "start" = some (some (.ref p_Lengths_start)))
    (pg_Lengths_start : PySem.W.specialIn K (.ref p_Lengths_start) "__get__" = some (some (.builtin "property.__get__")))
    (pt_Lengths_start : PySem.W.takesIn K (.ref p_Lengths_start) = some true)
    (pr_Lengths_start : PySem.W.recIn K p_Lengths_start "property" = some (.ref f_Lengths_start :: rest_Lengths_start))
    (l_Lengths_start : K.lookup f_Lengths_start = some ⟨oc_Lengths_start, od_Lengths_start, .func (PySem.W.fnOf "start" "Lengths.start" (defArgs s_Lengths_start) (defBody s_Lengths_start) (defScope s_Lengths_start) .none kV_Lengths_start dc_Lengths_start pm_Lengths_start an_Lengths_start cd_Lengths_start ct_Lengths_start), sl_Lengths_start⟩)
    (c_Lengths_start_ : PySem.W.codeIn K cd_Lengths_start "Lengths.start" = true)
    (k_Lengths_start : PySem.W.keepIn K (.ref f_Lengths_start) = true)
    (pa_Lengths_period : PySem.W.findIn K (.ref c_Lengths) "period" = some (some (.ref p_Lengths_period)))
    (pg_Lengths_period : PySem.W.specialIn K (.ref p_Lengths_period) "__get__" = some (some (.builtin "property.__get__")))
    (pt_Lengths_period : PySem.W.takesIn K (.ref p_Lengths_period) = some true)
    (pr_Lengths_period : PySem.W.recIn K p_Lengths_period "property" = some (.ref f_Lengths_period :: rest_Lengths_period))
    (l_Lengths_period : K.lookup f_Lengths_period = some ⟨oc_Lengths_period, od_Lengths_period, .func (PySem.W.fnOf "period" "Lengths.period" (defArgs s_Lengths_period) (defBody s_Lengths_period) (defScope s_Lengths_period) .none kV_Lengths_period dc_Lengths_period pm_Lengths_period an_Lengths_period cd_Lengths_period ct_Lengths_period), sl_Lengths_period⟩)
    (c_Lengths_period_ : PySem.W.codeIn K cd_Lengths_period "Lengths.period" = true)
    (k_Lengths_period : PySem.W.keepIn K (.ref f_Lengths_period) = true)
    (h_kit_Days : PySem.W.kitOne K (.ref c_Days) (.ref c_Days) = some true)
    (h_kit_Lengths : PySem.W.kitOne K (.ref c_Lengths) (.ref c_Lengths) = some true)
    (h_si_Days : PySem.W.subIn K (.type "int") (.ref c_Days) = some false)
    (h_si_Stay : PySem.W.subIn K (.type "int") (.ref c_Stay) = some false)
    (a_lcm : PySem.W.nsIn K mainGlobals "lcm" = some (some (.builtin "math.lcm")))
    (a__law_pen : PySem.W.nsIn K mainGlobals "_law_pen" = some (some (.ref f__law_pen)))
    (l__law_pen : K.lookup f__law_pen = some ⟨oc__law_pen, od__law_pen, .func (PySem.W.fnOf "_law_pen" "_law_pen" (defArgs s__law_pen) (defBody s__law_pen) (defScope s__law_pen) .none kV__law_pen dc__law_pen pm__law_pen an__law_pen cd__law_pen ct__law_pen), sl__law_pen⟩)
    (c__law_pen_ : PySem.W.codeIn K cd__law_pen "_law_pen" = true)
    (k__law_pen : PySem.W.keepIn K (.ref f__law_pen) = true)
    (a__law_draw : PySem.W.nsIn K mainGlobals "_law_draw" = some (some (.ref f__law_draw)))
    (l__law_draw : K.lookup f__law_draw = some ⟨oc__law_draw, od__law_draw, .func (PySem.W.fnOf "_law_draw" "_law_draw" (defArgs s__law_draw) (defBody s__law_draw) (defScope s__law_draw) .none kV__law_draw dc__law_draw pm__law_draw an__law_draw cd__law_draw ct__law_draw), sl__law_draw⟩)
    (c__law_draw_ : PySem.W.codeIn K cd__law_draw "_law_draw" = true)
    (k__law_draw : PySem.W.keepIn K (.ref f__law_draw) = true)
    (a__law_pick : PySem.W.nsIn K mainGlobals "_law_pick" = some (some (.ref f__law_pick)))
    (l__law_pick : K.lookup f__law_pick = some ⟨oc__law_pick, od__law_pick, .func (PySem.W.fnOf "_law_pick" "_law_pick" (defArgs s__law_pick) (defBody s__law_pick) (defScope s__law_pick) .none kV__law_pick dc__law_pick pm__law_pick an__law_pick cd__law_pick ct__law_pick), sl__law_pick⟩)
    (c__law_pick_ : PySem.W.codeIn K cd__law_pick "_law_pick" = true)
    (k__law_pick : PySem.W.keepIn K (.ref f__law_pick) = true)
    (a__law_days : PySem.W.nsIn K mainGlobals "_law_days" = some (some (.ref f__law_days)))
    (l__law_days : K.lookup f__law_days = some ⟨oc__law_days, od__law_days, .func (PySem.W.fnOf "_law_days" "_law_days" (defArgs s__law_days) (defBody s__law_days) (defScope s__law_days) .none kV__law_days dc__law_days pm__law_days an__law_days cd__law_days ct__law_days), sl__law_days⟩)
    (c__law_days_ : PySem.W.codeIn K cd__law_days "_law_days" = true)
    (k__law_days : PySem.W.keepIn K (.ref f__law_days) = true)
    (a__law_many : PySem.W.nsIn K mainGlobals "_law_many" = some (some (.ref f__law_many)))
    (l__law_many : K.lookup f__law_many = some ⟨oc__law_many, od__law_many, .func (PySem.W.fnOf "_law_many" "_law_many" (defArgs s__law_many) (defBody s__law_many) (defScope s__law_many) .none kV__law_many dc__law_many pm__law_many an__law_many cd__law_many ct__law_many), sl__law_many⟩)
    (c__law_many_ : PySem.W.codeIn K cd__law_many "_law_many" = true)
    (k__law_many : PySem.W.keepIn K (.ref f__law_many) = true)
    (a__law_counts_right : PySem.W.nsIn K mainGlobals "_law_counts_right" = some (some (.ref f__law_counts_right)))
    (l__law_counts_right : K.lookup f__law_counts_right = some ⟨oc__law_counts_right, od__law_counts_right, .func (PySem.W.fnOf "_law_counts_right" "_law_counts_right" (defArgs s__law_counts_right) (defBody s__law_counts_right) (defScope s__law_counts_right) .none kV__law_counts_right dc__law_counts_right pm__law_counts_right an__law_counts_right cd__law_counts_right ct__law_counts_right), sl__law_counts_right⟩)
    (c__law_counts_right_ : PySem.W.codeIn K cd__law_counts_right "_law_counts_right" = true)
    (k__law_counts_right : PySem.W.keepIn K (.ref f__law_counts_right) = true)
    (a__law_moved_right : PySem.W.nsIn K mainGlobals "_law_moved_right" = some (some (.ref f__law_moved_right)))
    (l__law_moved_right : K.lookup f__law_moved_right = some ⟨oc__law_moved_right, od__law_moved_right, .func (PySem.W.fnOf "_law_moved_right" "_law_moved_right" (defArgs s__law_moved_right) (defBody s__law_moved_right) (defScope s__law_moved_right) .none kV__law_moved_right dc__law_moved_right pm__law_moved_right an__law_moved_right cd__law_moved_right ct__law_moved_right), sl__law_moved_right⟩)
    (c__law_moved_right_ : PySem.W.codeIn K cd__law_moved_right "_law_moved_right" = true)
    (k__law_moved_right : PySem.W.keepIn K (.ref f__law_moved_right) = true)
    (a__law_parts_right : PySem.W.nsIn K mainGlobals "_law_parts_right" = some (some (.ref f__law_parts_right)))
    (l__law_parts_right : K.lookup f__law_parts_right = some ⟨oc__law_parts_right, od__law_parts_right, .func (PySem.W.fnOf "_law_parts_right" "_law_parts_right" (defArgs s__law_parts_right) (defBody s__law_parts_right) (defScope s__law_parts_right) .none kV__law_parts_right dc__law_parts_right pm__law_parts_right an__law_parts_right cd__law_parts_right ct__law_parts_right), sl__law_parts_right⟩)
    (c__law_parts_right_ : PySem.W.codeIn K cd__law_parts_right "_law_parts_right" = true)
    (k__law_parts_right : PySem.W.keepIn K (.ref f__law_parts_right) = true)
    (a__law_listed_right : PySem.W.nsIn K mainGlobals "_law_listed_right" = some (some (.ref f__law_listed_right)))
    (l__law_listed_right : K.lookup f__law_listed_right = some ⟨oc__law_listed_right, od__law_listed_right, .func (PySem.W.fnOf "_law_listed_right" "_law_listed_right" (defArgs s__law_listed_right) (defBody s__law_listed_right) (defScope s__law_listed_right) .none kV__law_listed_right dc__law_listed_right pm__law_listed_right an__law_listed_right cd__law_listed_right ct__law_listed_right), sl__law_listed_right⟩)
    (c__law_listed_right_ : PySem.W.codeIn K cd__law_listed_right "_law_listed_right" = true)
    (k__law_listed_right : PySem.W.keepIn K (.ref f__law_listed_right) = true)
    (a_law : PySem.W.nsIn K mainGlobals "law" = some (some (.ref f_law)))
    (l_law : K.lookup f_law = some ⟨oc_law, od_law, .func (PySem.W.fnOf "law" "law" (defArgs s_law) (defBody s_law) (defScope s_law) .none kV_law dc_law pm_law an_law cd_law ct_law), sl_law⟩)
    (c_law_ : PySem.W.codeIn K cd_law "law" = true)
    (k_law : PySem.W.keepIn K (.ref f_law) = true)
    (z_isinstance : PySem.W.nsIn K mainGlobals "isinstance" = some none)
    (z_int : PySem.W.nsIn K mainGlobals "int" = some none)
    (z_bool : PySem.W.nsIn K mainGlobals "bool" = some none)
    (z_len : PySem.W.nsIn K mainGlobals "len" = some none)
    (z_tuple : PySem.W.nsIn K mainGlobals "tuple" = some none)
    (z_range : PySem.W.nsIn K mainGlobals "range" = some none)
    (z_list : PySem.W.nsIn K mainGlobals "list" = some none)
    (z_abs : PySem.W.nsIn K mainGlobals "abs" = some none)
    (z_all : PySem.W.nsIn K mainGlobals "all" = some none)
    (z_max : PySem.W.nsIn K mainGlobals "max" = some none)
    (z_divmod : PySem.W.nsIn K mainGlobals "divmod" = some none)
    (z_iter : PySem.W.nsIn K mainGlobals "iter" = some none)
    (a_LAST_DAY : PySem.W.nsIn K mainGlobals "LAST_DAY" = some (some (.int 999999999999 t_LAST_DAY)))
    (h_Days_MOST : PySem.W.findCls K (.ref c_Days) (.type "type") "MOST" = some (.val (.int 7 t_Days_MOST)))
    (h_Stay_rd : PySem.W.readsIn K c_Stay (.type "type") = true)
    (h_Stay_tg : PySem.W.specialIn K (.ref c_Stay) "__getattribute__" = some (some (.builtin "type.__getattribute__")))
    (h_Stay_MOST : PySem.W.findCls K (.ref c_Stay) (.type "type") "MOST" = some (.val (.int 400 t_Stay_MOST)))
    (h_Lengths_MOST : PySem.W.findCls K (.ref c_Lengths) (.type "type") "MOST" = some (.val (.int 400 t_Lengths_MOST)))
    , LawAtG l w K CX0 40 63 "script" mg fa h) : PySem.Challenge.rw_nodeadnight_k17_whole_days_and_stays.Holds := by
  w_on; o_law; k_headL; (case hw => w_witness2)
  intro AM
  k_fill
  refine LamX.walk_ofG (l := PySem.Challenge.rw_nodeadnight_k17_whole_days_and_stays) (n := 63) (k := 40) (CX := fun _ => L2.CX0) (x := "script") rfl (by decide) rfl ⟨rfl, by decide, by decide⟩ (fun w h Y => by first | exact PySem.W.km_in_of Y | exact PySem.W.kIn_of Y) ?F ?hCX
  case hCX => exact fun _ _ _ _ _ z => z
  case F =>
    intro w mg fa h Y KX G hmg
    refine' AM (hfa := hmg) KX G ?a_is_whole ?l_is_whole ?c_is_whole_ ?k_is_whole ?a_is_from ?l_is_from ?c_is_from_ ?k_is_from ?a_is_day ?l_is_day ?c_is_day_ ?k_is_day ?a_are_from ?l_are_from ?c_are_from_ ?k_are_from ?a_marked ?l_marked ?c_marked_ ?k_marked ?a_least_period ?l_least_period ?c_least_period_ ?k_least_period ?a_common_period ?l_common_period ?c_common_period_ ?k_common_period ?a_check_parts ?l_check_parts ?c_check_parts_ ?k_check_parts ?a_check_size ?l_check_size ?c_check_size_ ?k_check_size ?a_check_argument ?l_check_argument ?c_check_argument_ ?k_check_argument ?a_check_number ?l_check_number ?c_check_number_ ?k_check_number ?a_common_form ?l_common_form ?c_common_form_ ?k_common_form ?a_gathered ?l_gathered ?c_gathered_ ?k_gathered ?a_StayError ?a_BadDays ?h_BadDays_l ?h_BadDays_bm ?h_BadDays_sa ?h_BadDays_ex ?h_BadDays_ty ?h_BadDays_kp ?h_BadDays_ga ?h_BadDays_gg ?h_BadDays_hd ?h_BadDays_cls ?h_BadDays_mro ?h_cget ?h_ctak ?h_nx_BadDays_part ?a_BadDays___init__ ?i_BadDays___init__ ?l_BadDays___init__ ?c_BadDays___init___ ?k_BadDays___init__ ?t_BadDays___init__ ?a_BadStay ?h_BadStay_l ?h_BadStay_bm ?h_BadStay_sa ?h_BadStay_ex ?h_BadStay_ty ?h_BadStay_kp ?h_BadStay_ga ?h_BadStay_gg ?h_BadStay_hd ?h_BadStay_cls ?h_BadStay_mro ?h_nx_BadStay_part ?a_BadStay___init__ ?i_BadStay___init__ ?l_BadStay___init__ ?c_BadStay___init___ ?k_BadStay___init__ ?t_BadStay___init__ ?a_TooMany ?h_TooMany_l ?h_TooMany_bm ?h_TooMany_sa ?h_TooMany_ex ?h_TooMany_ty ?h_TooMany_kp ?h_TooMany_ga ?h_TooMany_gg ?h_TooMany_hd ?h_TooMany_cls ?h_TooMany_mro ?h_nx_TooMany_what ?h_nx_TooMany_most ?a_TooMany___init__ ?i_TooMany___init__ ?l_TooMany___init__ ?c_TooMany___init___ ?k_TooMany___init__ ?t_TooMany___init__ ?a_Days ?h_Days_pg ?h_Days_hd ?h_Days_po ?h_Days_sa ?h_Days_cls ?h_Days_get ?h_Days_tak ?h_Days_mro ?h_na_Days__period ?h_na_Days__rests ?h_Days_mk ?h_Days_kp ?a_Days___init__ ?i_Days___init__ ?l_Days___init__ ?c_Days___init___ ?k_Days___init__ ?a_Days___eq__ ?i_Days___eq__ ?l_Days___eq__ ?c_Days___eq___ ?k_Days___eq__ ?a_Days___contains__ ?i_Days___contains__ ?l_Days___contains__ ?c_Days___contains___ ?k_Days___contains__ ?a_Days___and__ ?i_Days___and__ ?l_Days___and__ ?c_Days___and___ ?k_Days___and__ ?a_Days___or__ ?i_Days___or__ ?l_Days___or__ ?c_Days___or___ ?k_Days___or__ ?a_Days___sub__ ?i_Days___sub__ ?l_Days___sub__ ?c_Days___sub___ ?k_Days___sub__ ?a_Days___invert__ ?i_Days___invert__ ?l_Days___invert__ ?c_Days___invert___ ?k_Days___invert__ ?a_Days___rshift__ ?i_Days___rshift__ ?l_Days___rshift__ ?c_Days___rshift___ ?k_Days___rshift__ ?a_Days___lshift__ ?i_Days___lshift__ ?l_Days___lshift__ ?c_Days___lshift___ ?k_Days___lshift__ ?a_Days___le__ ?i_Days___le__ ?l_Days___le__ ?c_Days___le___ ?k_Days___le__ ?a_Days_following ?i_Days_following ?l_Days_following ?c_Days_following_ ?k_Days_following ?h_Days_ne ?h_Days_sf ?h_Days_rand ?h_Days_iand ?h_Days_cd ?h_Days_cm ?h_Days_ror ?h_Days_ior ?h_Days_rsub ?h_Days_isub ?h_Days_rrshift ?h_Days_rlshift ?h_Days_rd ?h_Days_tg ?ca_Days_none ?cr_Days_none ?l_Days_none ?c_Days_none_ ?k_Days_none ?pa_Days_period ?pg_Days_period ?pt_Days_period ?pr_Days_period ?l_Days_period ?c_Days_period_ ?k_Days_period ?a_Stay ?h_Stay_pg ?h_Stay_hd ?h_Stay_po ?h_Stay_sa ?h_Stay_cls ?h_Stay_get ?h_Stay_tak ?h_Stay_mro ?h_na_Stay_first ?h_na_Stay_after ?h_na_Stay__nights ?h_Stay_mk ?h_Stay_kp ?a_Stay___init__ ?i_Stay___init__ ?l_Stay___init__ ?c_Stay___init___ ?k_Stay___init__ ?a_Stay___len__ ?i_Stay___len__ ?l_Stay___len__ ?c_Stay___len___ ?k_Stay___len__ ?a_Stay___iter__ ?i_Stay___iter__ ?l_Stay___iter__ ?c_Stay___iter___ ?k_Stay___iter__ ?a_Stay___rshift__ ?i_Stay___rshift__ ?l_Stay___rshift__ ?c_Stay___rshift___ ?k_Stay___rshift__ ?a_Stay___lshift__ ?i_Stay___lshift__ ?l_Stay___lshift__ ?c_Stay___lshift___ ?k_Stay___lshift__ ?a_Stay___floordiv__ ?i_Stay___floordiv__ ?l_Stay___floordiv__ ?c_Stay___floordiv___ ?k_Stay___floordiv__ ?a_Stay_meets ?i_Stay_meets ?l_Stay_meets ?c_Stay_meets_ ?k_Stay_meets ?h_Stay_sf ?h_Stay_rrshift ?h_Stay_rlshift ?h_Stay_rfloordiv ?a_Lengths ?h_Lengths_pg ?h_Lengths_hd ?h_Lengths_po ?h_Lengths_sa ?h_Lengths_cls ?h_Lengths_get ?h_Lengths_tak ?h_Lengths_mro ?h_na_Lengths__start ?h_na_Lengths__period ?h_na_Lengths__low ?h_na_Lengths__rests ?h_na_Lengths__marks ?h_Lengths_mk ?h_Lengths_kp ?a_Lengths___init__ ?i_Lengths___init__ ?l_Lengths___init__ ?c_Lengths___init___ ?k_Lengths___init__ ?lt_Lengths___init__ ?ldl_Lengths___init__ ?ldr_Lengths___init__ ?a_Lengths___eq__ ?i_Lengths___eq__ ?l_Lengths___eq__ ?c_Lengths___eq___ ?k_Lengths___eq__ ?a_Lengths___contains__ ?i_Lengths___contains__ ?l_Lengths___contains__ ?c_Lengths___contains___ ?k_Lengths___contains__ ?a_Lengths___or__ ?i_Lengths___or__ ?l_Lengths___or__ ?c_Lengths___or___ ?k_Lengths___or__ ?a_Lengths___sub__ ?i_Lengths___sub__ ?l_Lengths___sub__ ?c_Lengths___sub___ ?k_Lengths___sub__ ?a_Lengths_at_least ?i_Lengths_at_least ?l_Lengths_at_least ?c_Lengths_at_least_ ?k_Lengths_at_least ?a_Lengths_below ?i_Lengths_below ?l_Lengths_below ?c_Lengths_below_ ?k_Lengths_below ?h_Lengths_ne ?h_Lengths_sf ?h_Lengths_ror ?h_Lengths_rsub ?h_Lengths_rd ?h_Lengths_tg ?ca_Lengths_none ?cr_Lengths_none ?l_Lengths_none ?c_Lengths_none_ ?k_Lengths_none ?ca_Lengths_of ?cr_Lengths_of ?l_Lengths_of ?c_Lengths_of_ ?k_Lengths_of ?ca_Lengths_since ?cr_Lengths_since ?l_Lengths_since ?c_Lengths_since_ ?k_Lengths_since ?pa_Lengths_start ?pg_Lengths_start ?pt_Lengths_start ?pr_Lengths_start ?l_Lengths_start ?c_Lengths_start_ ?k_Lengths_start ?pa_Lengths_period ?pg_Lengths_period ?pt_Lengths_period ?pr_Lengths_period ?l_Lengths_period ?c_Lengths_period_ ?k_Lengths_period ?h_kit_Days ?h_kit_Lengths ?h_si_Days ?h_si_Stay ?a_lcm ?a__law_pen ?l__law_pen ?c__law_pen_ ?k__law_pen ?a__law_draw ?l__law_draw ?c__law_draw_ ?k__law_draw ?a__law_pick ?l__law_pick ?c__law_pick_ ?k__law_pick ?a__law_days ?l__law_days ?c__law_days_ ?k__law_days ?a__law_many ?l__law_many ?c__law_many_ ?k__law_many ?a__law_counts_right ?l__law_counts_right ?c__law_counts_right_ ?k__law_counts_right ?a__law_moved_right ?l__law_moved_right ?c__law_moved_right_ ?k__law_moved_right ?a__law_parts_right ?l__law_parts_right ?c__law_parts_right_ ?k__law_parts_right ?a__law_listed_right ?l__law_listed_right ?c__law_listed_right_ ?k__law_listed_right ?a_law ?l_law ?c_law_ ?k_law ?z_isinstance ?z_int ?z_bool ?z_len ?z_tuple ?z_range ?z_list ?z_abs ?z_all ?z_max ?z_divmod ?z_iter ?a_LAST_DAY ?h_Days_MOST ?h_Stay_rd ?h_Stay_tg ?h_Stay_MOST ?h_Lengths_MOST
    (case a_is_whole => k_is)
    (case l_is_whole => k_is)
    (case c_is_whole_ => k_is)
    (case k_is_whole => k_is)
    (case a_is_from => k_is)
    (case l_is_from => k_is)
    (case c_is_from_ => k_is)
    (case k_is_from => k_is)
    (case a_is_day => k_is)
    (case l_is_day => k_is)
    (case c_is_day_ => k_is)
    (case k_is_day => k_is)
    (case a_are_from => k_is)
    (case l_are_from => k_is)
    (case c_are_from_ => k_is)
    (case k_are_from => k_is)
    (case a_marked => k_is)
    (case l_marked => k_is)
    (case c_marked_ => k_is)
    (case k_marked => k_is)
    (case a_least_period => k_is)
    (case l_least_period => k_is)
    (case c_least_period_ => k_is)
    (case k_least_period => k_is)
    (case a_common_period => k_is)
    (case l_common_period => k_is)
    (case c_common_period_ => k_is)
    (case k_common_period => k_is)
    (case a_check_parts => k_is)
    (case l_check_parts => k_is)
    (case c_check_parts_ => k_is)
    (case k_check_parts => k_is)
    (case a_check_size => k_is)
    (case l_check_size => k_is)
    (case c_check_size_ => k_is)
    (case k_check_size => k_is)
    (case a_check_argument => k_is)
    (case l_check_argument => k_is)
    (case c_check_argument_ => k_is)
    (case k_check_argument => k_is)
    (case a_check_number => k_is)
    (case l_check_number => k_is)
    (case c_check_number_ => k_is)
    (case k_check_number => k_is)
    (case a_common_form => k_is)
    (case l_common_form => k_is)
    (case c_common_form_ => k_is)
    (case k_common_form => k_is)
    (case a_gathered => k_is)
    (case l_gathered => k_is)
    (case c_gathered_ => k_is)
    (case k_gathered => k_is)
    (case a_StayError => k_is)
    (case a_BadDays => k_is)
    (case h_BadDays_l => k_is)
    (case h_BadDays_bm => first | rfl | decide +kernel)
    (case h_BadDays_sa => k_is)
    (case h_BadDays_ex => k_is)
    (case h_BadDays_ty => k_is)
    (case h_BadDays_kp => k_is)
    (case h_BadDays_ga => k_is)
    (case h_BadDays_gg => k_is)
    (case h_BadDays_hd => k_is)
    (case h_BadDays_cls => k_is)
    (case h_BadDays_mro => k_is)
    (case h_cget => k_is)
    (case h_ctak => k_is)
    (case h_nx_BadDays_part => k_is)
    (case a_BadDays___init__ => k_is)
    (case i_BadDays___init__ => k_is)
    (case l_BadDays___init__ => k_is)
    (case c_BadDays___init___ => k_is)
    (case k_BadDays___init__ => k_is)
    (case t_BadDays___init__ => k_is)
    (case a_BadStay => k_is)
    (case h_BadStay_l => k_is)
    (case h_BadStay_bm => first | rfl | decide +kernel)
    (case h_BadStay_sa => k_is)
    (case h_BadStay_ex => k_is)
    (case h_BadStay_ty => k_is)
    (case h_BadStay_kp => k_is)
    (case h_BadStay_ga => k_is)
    (case h_BadStay_gg => k_is)
    (case h_BadStay_hd => k_is)
    (case h_BadStay_cls => k_is)
    (case h_BadStay_mro => k_is)
    (case h_nx_BadStay_part => k_is)
    (case a_BadStay___init__ => k_is)
    (case i_BadStay___init__ => k_is)
    (case l_BadStay___init__ => k_is)
    (case c_BadStay___init___ => k_is)
    (case k_BadStay___init__ => k_is)
    (case t_BadStay___init__ => k_is)
    (case a_TooMany => k_is)
    (case h_TooMany_l => k_is)
    (case h_TooMany_bm => first | rfl | decide +kernel)
    (case h_TooMany_sa => k_is)
    (case h_TooMany_ex => k_is)
    (case h_TooMany_ty => k_is)
    (case h_TooMany_kp => k_is)
    (case h_TooMany_ga => k_is)
    (case h_TooMany_gg => k_is)
    (case h_TooMany_hd => k_is)
    (case h_TooMany_cls => k_is)
    (case h_TooMany_mro => k_is)
    (case h_nx_TooMany_what => k_is)
    (case h_nx_TooMany_most => k_is)
    (case a_TooMany___init__ => k_is)
    (case i_TooMany___init__ => k_is)
    (case l_TooMany___init__ => k_is)
    (case c_TooMany___init___ => k_is)
    (case k_TooMany___init__ => k_is)
    (case t_TooMany___init__ => k_is)
    (case a_Days => k_is)
    (case h_Days_pg => k_is)
    (case h_Days_hd => k_is)
    (case h_Days_po => k_is)
    (case h_Days_sa => k_is)
    (case h_Days_cls => k_is)
    (case h_Days_get => k_is)
    (case h_Days_tak => k_is)
    (case h_Days_mro => k_is)
    (case h_na_Days__period => k_is)
    (case h_na_Days__rests => k_is)
    (case h_Days_mk => k_is)
    (case h_Days_kp => k_is)
    (case a_Days___init__ => k_is)
    (case i_Days___init__ => k_is)
    (case l_Days___init__ => k_is)
    (case c_Days___init___ => k_is)
    (case k_Days___init__ => k_is)
    (case a_Days___eq__ => k_is)
    (case i_Days___eq__ => k_is)
    (case l_Days___eq__ => k_is)
    (case c_Days___eq___ => k_is)
    (case k_Days___eq__ => k_is)
    (case a_Days___contains__ => k_is)
    (case i_Days___contains__ => k_is)
    (case l_Days___contains__ => k_is)
    (case c_Days___contains___ => k_is)
    (case k_Days___contains__ => k_is)
    (case a_Days___and__ => k_is)
    (case i_Days___and__ => k_is)
    (case l_Days___and__ => k_is)
    (case c_Days___and___ => k_is)
    (case k_Days___and__ => k_is)
    (case a_Days___or__ => k_is)
    (case i_Days___or__ => k_is)
    (case l_Days___or__ => k_is)
    (case c_Days___or___ => k_is)
    (case k_Days___or__ => k_is)
    (case a_Days___sub__ => k_is)
    (case i_Days___sub__ => k_is)
    (case l_Days___sub__ => k_is)
    (case c_Days___sub___ => k_is)
    (case k_Days___sub__ => k_is)
    (case a_Days___invert__ => k_is)
    (case i_Days___invert__ => k_is)
    (case l_Days___invert__ => k_is)
    (case c_Days___invert___ => k_is)
    (case k_Days___invert__ => k_is)
    (case a_Days___rshift__ => k_is)
    (case i_Days___rshift__ => k_is)
    (case l_Days___rshift__ => k_is)
    (case c_Days___rshift___ => k_is)
    (case k_Days___rshift__ => k_is)
    (case a_Days___lshift__ => k_is)
    (case i_Days___lshift__ => k_is)
    (case l_Days___lshift__ => k_is)
    (case c_Days___lshift___ => k_is)
    (case k_Days___lshift__ => k_is)
    (case a_Days___le__ => k_is)
    (case i_Days___le__ => k_is)
    (case l_Days___le__ => k_is)
    (case c_Days___le___ => k_is)
    (case k_Days___le__ => k_is)
    (case a_Days_following => k_is)
    (case i_Days_following => k_is)
    (case l_Days_following => k_is)
    (case c_Days_following_ => k_is)
    (case k_Days_following => k_is)
    (case h_Days_ne => k_is)
    (case h_Days_sf => k_is)
    (case h_Days_rand => k_is)
    (case h_Days_iand => k_is)
    (case h_Days_cd => k_is)
    (case h_Days_cm => first | rfl | k_is)
    (case h_Days_ror => k_is)
    (case h_Days_ior => k_is)
    (case h_Days_rsub => k_is)
    (case h_Days_isub => k_is)
    (case h_Days_rrshift => k_is)
    (case h_Days_rlshift => k_is)
    (case h_Days_rd => k_is)
    (case h_Days_tg => k_is)
    (case ca_Days_none => k_is)
    (case cr_Days_none => k_is)
    (case l_Days_none => k_is)
    (case c_Days_none_ => k_is)
    (case k_Days_none => k_is)
    (case pa_Days_period => k_is)
    (case pg_Days_period => k_is)
    (case pt_Days_period => k_is)
    (case pr_Days_period => k_is)
    (case l_Days_period => k_is)
    (case c_Days_period_ => k_is)
    (case k_Days_period => k_is)
    (case a_Stay => k_is)
    (case h_Stay_pg => k_is)
    (case h_Stay_hd => k_is)
    (case h_Stay_po => k_is)
    (case h_Stay_sa => k_is)
    (case h_Stay_cls => k_is)
    (case h_Stay_get => k_is)
    (case h_Stay_tak => k_is)
    (case h_Stay_mro => k_is)
    (case h_na_Stay_first => k_is)
    (case h_na_Stay_after => k_is)
    (case h_na_Stay__nights => k_is)
    (case h_Stay_mk => k_is)
    (case h_Stay_kp => k_is)
    (case a_Stay___init__ => k_is)
    (case i_Stay___init__ => k_is)
    (case l_Stay___init__ => k_is)
    (case c_Stay___init___ => k_is)
    (case k_Stay___init__ => k_is)
    (case a_Stay___len__ => k_is)
    (case i_Stay___len__ => k_is)
    (case l_Stay___len__ => k_is)
    (case c_Stay___len___ => k_is)
    (case k_Stay___len__ => k_is)
    (case a_Stay___iter__ => k_is)
    (case i_Stay___iter__ => k_is)
    (case l_Stay___iter__ => k_is)
    (case c_Stay___iter___ => k_is)
    (case k_Stay___iter__ => k_is)
    (case a_Stay___rshift__ => k_is)
    (case i_Stay___rshift__ => k_is)
    (case l_Stay___rshift__ => k_is)
    (case c_Stay___rshift___ => k_is)
    (case k_Stay___rshift__ => k_is)
    (case a_Stay___lshift__ => k_is)
    (case i_Stay___lshift__ => k_is)
    (case l_Stay___lshift__ => k_is)
    (case c_Stay___lshift___ => k_is)
    (case k_Stay___lshift__ => k_is)
    (case a_Stay___floordiv__ => k_is)
    (case i_Stay___floordiv__ => k_is)
    (case l_Stay___floordiv__ => k_is)
    (case c_Stay___floordiv___ => k_is)
    (case k_Stay___floordiv__ => k_is)
    (case a_Stay_meets => k_is)
    (case i_Stay_meets => k_is)
    (case l_Stay_meets => k_is)
    (case c_Stay_meets_ => k_is)
    (case k_Stay_meets => k_is)
    (case h_Stay_sf => k_is)
    (case h_Stay_rrshift => k_is)
    (case h_Stay_rlshift => k_is)
    (case h_Stay_rfloordiv => k_is)
    (case a_Lengths => k_is)
    (case h_Lengths_pg => k_is)
    (case h_Lengths_hd => k_is)
    (case h_Lengths_po => k_is)
    (case h_Lengths_sa => k_is)
    (case h_Lengths_cls => k_is)
    (case h_Lengths_get => k_is)
    (case h_Lengths_tak => k_is)
    (case h_Lengths_mro => k_is)
    (case h_na_Lengths__start => k_is)
    (case h_na_Lengths__period => k_is)
    (case h_na_Lengths__low => k_is)
    (case h_na_Lengths__rests => k_is)
    (case h_na_Lengths__marks => k_is)
    (case h_Lengths_mk => k_is)
    (case h_Lengths_kp => k_is)
    (case a_Lengths___init__ => k_is)
    (case i_Lengths___init__ => k_is)
    (case l_Lengths___init__ => k_is)
    (case c_Lengths___init___ => k_is)
    (case k_Lengths___init__ => k_is)
    (case lt_Lengths___init__ => k_is)
    (case ldl_Lengths___init__ => k_is)
    (case ldr_Lengths___init__ => k_is)
    (case a_Lengths___eq__ => k_is)
    (case i_Lengths___eq__ => k_is)
    (case l_Lengths___eq__ => k_is)
    (case c_Lengths___eq___ => k_is)
    (case k_Lengths___eq__ => k_is)
    (case a_Lengths___contains__ => k_is)
    (case i_Lengths___contains__ => k_is)
    (case l_Lengths___contains__ => k_is)
    (case c_Lengths___contains___ => k_is)
    (case k_Lengths___contains__ => k_is)
    (case a_Lengths___or__ => k_is)
    (case i_Lengths___or__ => k_is)
    (case l_Lengths___or__ => k_is)
    (case c_Lengths___or___ => k_is)
    (case k_Lengths___or__ => k_is)
    (case a_Lengths___sub__ => k_is)
    (case i_Lengths___sub__ => k_is)
    (case l_Lengths___sub__ => k_is)
    (case c_Lengths___sub___ => k_is)
    (case k_Lengths___sub__ => k_is)
    (case a_Lengths_at_least => k_is)
    (case i_Lengths_at_least => k_is)
    (case l_Lengths_at_least => k_is)
    (case c_Lengths_at_least_ => k_is)
    (case k_Lengths_at_least => k_is)
    (case a_Lengths_below => k_is)
    (case i_Lengths_below => k_is)
    (case l_Lengths_below => k_is)
    (case c_Lengths_below_ => k_is)
    (case k_Lengths_below => k_is)
    (case h_Lengths_ne => k_is)
    (case h_Lengths_sf => k_is)
    (case h_Lengths_ror => k_is)
    (case h_Lengths_rsub => k_is)
    (case h_Lengths_rd => k_is)
    (case h_Lengths_tg => k_is)
    (case ca_Lengths_none => k_is)
    (case cr_Lengths_none => k_is)
    (case l_Lengths_none => k_is)
    (case c_Lengths_none_ => k_is)
    (case k_Lengths_none => k_is)
    (case ca_Lengths_of => k_is)
    (case cr_Lengths_of => k_is)
    (case l_Lengths_of => k_is)
    (case c_Lengths_of_ => k_is)
    (case k_Lengths_of => k_is)
    (case ca_Lengths_since => k_is)
    (case cr_Lengths_since => k_is)
    (case l_Lengths_since => k_is)
    (case c_Lengths_since_ => k_is)
    (case k_Lengths_since => k_is)
    (case pa_Lengths_start => k_is)
    (case pg_Lengths_start => k_is)
    (case pt_Lengths_start => k_is)
    (case pr_Lengths_start => k_is)
    (case l_Lengths_start => k_is)
    (case c_Lengths_start_ => k_is)
    (case k_Lengths_start => k_is)
    (case pa_Lengths_period => k_is)
    (case pg_Lengths_period => k_is)
    (case pt_Lengths_period => k_is)
    (case pr_Lengths_period => k_is)
    (case l_Lengths_period => k_is)
    (case c_Lengths_period_ => k_is)
    (case k_Lengths_period => k_is)
    (case h_kit_Days => kit_is)
    (case h_kit_Lengths => kit_is)
    (case h_si_Days => k_is)
    (case h_si_Stay => k_is)
    (case a_lcm => k_is)
    (case a__law_pen => k_is)
    (case l__law_pen => k_is)
    (case c__law_pen_ => k_is)
    (case k__law_pen => k_is)
    (case a__law_draw => k_is)
    (case l__law_draw => k_is)
    (case c__law_draw_ => k_is)
    (case k__law_draw => k_is)
    (case a__law_pick => k_is)
    (case l__law_pick => k_is)
    (case c__law_pick_ => k_is)
    (case k__law_pick => k_is)
    (case a__law_days => k_is)
    (case l__law_days => k_is)
    (case c__law_days_ => k_is)
    (case k__law_days => k_is)
    (case a__law_many => k_is)
    (case l__law_many => k_is)
    (case c__law_many_ => k_is)
    (case k__law_many => k_is)
    (case a__law_counts_right => k_is)
    (case l__law_counts_right => k_is)
    (case c__law_counts_right_ => k_is)
    (case k__law_counts_right => k_is)
    (case a__law_moved_right => k_is)
    (case l__law_moved_right => k_is)
    (case c__law_moved_right_ => k_is)
    (case k__law_moved_right => k_is)
    (case a__law_parts_right => k_is)
    (case l__law_parts_right => k_is)
    (case c__law_parts_right_ => k_is)
    (case k__law_parts_right => k_is)
    (case a__law_listed_right => k_is)
    (case l__law_listed_right => k_is)
    (case c__law_listed_right_ => k_is)
    (case k__law_listed_right => k_is)
    (case a_law => k_is)
    (case l_law => k_is)
    (case c_law_ => k_is)
    (case k_law => k_is)
    (case z_isinstance => k_is)
    (case z_int => k_is)
    (case z_bool => k_is)
    (case z_len => k_is)
    (case z_tuple => k_is)
    (case z_range => k_is)
    (case z_list => k_is)
    (case z_abs => k_is)
    (case z_all => k_is)
    (case z_max => k_is)
    (case z_divmod => k_is)
    (case z_iter => k_is)
    (case a_LAST_DAY => k_is)
    (case h_Days_MOST => k_is)
    (case h_Stay_rd => k_is)
    (case h_Stay_tg => k_is)
    (case h_Stay_MOST => k_is)
    (case h_Lengths_MOST => k_is)
end NN

/-! len(x), str(x) of an own class. -/
namespace L2
open PySem PySem.Spec PyProof.Rows
section
variable {X : Cx} {CX : CXT} {k : Nat} {f C : Addr} {fd : FuncData} {ps : List Str} {sp : Sp}
/-- a special method of the class -/
structure SpM (K : PySem.W.Frag) (C f : Addr) (name : Str) : Prop where
  hs : PySem.W.findIn K (.ref C) name = some (some (.ref f))
  hf : PySem.W.isFn K (.ref f) = true
def rLenO (C : Addr) (sp : Sp) : List V → Hp → VK → Prop := fun xs H Q => ∃ a dx fs, xs = [.ref a] ∧ H a = some (.ins C dx fs) ∧ sp [.ref a] H (fun v H' => ∃ n : Int, v = .int n ∧ (0 ≤ n ∧ n < 2 ^ 63) ∧ Q (.int n) H') (fun _ _ _ => False)
theorem c_lenO (M : SpM X.K C f "__len__") (F : FnOk X.prog X.w X.K X.mg X.base CX k f fd ps sp) (hr : Room (k + 1) X.A) (hb : Binds X.K fd ps []) (hx : Passes CX X (fun _ _ _ => False)) : CallR X (.builtin "len") (rLenO C sp) := by
  intro pins s σ H xs us Q I r h
  obtain ⟨a, dx, fs, rfl, ha, hq⟩ := h
  obtain ⟨u, rfl, rx⟩ := vals1 r
  cases (show u = Value.ref a from rx)
  obtain ⟨_, J, _⟩ := ins_get I.hok ha
  obtain ⟨_, J, _⟩ := J.look
  obtain ⟨_, hF⟩ := I.fr
  refine PySem.W.len_K hF I.ok.mod.kin J M.hs M.hf (wpAny_mono (callA (A := X.A.in1) (vs := [.ref a]) F hr.in1 rfl hb hx I (.cons rfl .nil) hq) (fun z s' hz => ?_) fun _ _ z => z)
  obtain ⟨v', H', I', rv, n, e, hn, q⟩ := hz
  subst e
  obtain ⟨t, rfl⟩ := (show ∃ t, z = Value.int n t from rv)
  exact ⟨hn, .int n, H', I'.tok _, ⟨_, rfl⟩, q⟩
def rStrO (C : Addr) (sp : Sp) : List V → Hp → VK → Prop := fun xs H Q => ∃ a dx fs, xs = [.ref a] ∧ H a = some (.ins C dx fs) ∧ sp [.ref a] H (fun v H' => ∃ x : Str, v = .str x ∧ Q (.str x) H') (fun _ _ _ => False)
theorem c_strO (M : SpM X.K C f "__str__") (F : FnOk X.prog X.w X.K X.mg X.base CX k f fd ps sp) (hr : Room (k + 2) X.A) (hb : Binds X.K fd ps []) (hx : Passes CX X (fun _ _ _ => False)) : CallR X (.type "str") (rStrO C sp) := by
  intro pins s σ H xs us Q I r h
  obtain ⟨a, dx, fs, rfl, ha, hq⟩ := h
  obtain ⟨u, rfl, rx⟩ := vals1 r
  cases (show u = Value.ref a from rx)
  obtain ⟨_, J, _⟩ := ins_get I.hok ha
  obtain ⟨_, J, _⟩ := J.look
  have hu := hr.un
  refine PySem.W.kso_call (by show X.A.units + 1 + 1 < cLine; omega) I.kIn J M.hs M.hf (wpAny_mono (callA (A := X.A.in1.in1) (vs := [.ref a]) F hr.in1.in1 rfl hb hx I (.cons rfl .nil) hq) (fun z s' hz => ?_) fun _ _ z => z)
  obtain ⟨v', H', I', rv, x, e, q⟩ := hz
  subst e
  obtain ⟨t, rfl⟩ := (show ∃ t, z = Value.str x t from rv)
  exact ⟨.str x, H', I', ⟨_, rfl⟩, q⟩
end
end L2

/-! Abstract rules for own classes, errors, lambdas, pens. -/
namespace L2
open PySem PySem.Spec PyProof.Rows
/-- as Fun.okG, the code object told -/
theorem Fun.okGC {P : Program} {w : World} {K : PySem.W.Frag} {mg : Str → Option Value} {base : Heap} {x qual : Str} {st : Stmt} {f : Addr} {fd : FuncData} {N ps : List Str} {k : Nat} {sp : Sp} (F : Fun K x qual st f fd) (S : FnScope N ps (defScope st)) (len : ∀ vs H Q E, sp vs H Q E → vs.length = ps.length)
    (hb : ∀ (A : Around) (outer : List Env) (s : Shared) (H : Hp) (vs : List V) (Q : VK) (E : XK), Room k (A.deeper (envOfC qual (defScope st) s.heap.objs.size f fd.code)) → A.guards = some [] → sp vs H Q E →
      ∃ t, PSs (cxOf CX0 P w K mg base N qual (defScope st) f fd.code A outer s H E).nox (defBody st) t ∧ t { nx := fun _ H' => Q .non H', rt := Q } (start N vs) H) : FnG P w K mg base CX0 (k + 1) f fd ps sp := by
  obtain ⟨oc, od, kV, doc, pm, an, cdv, ct, osl, rfl, lk, hcd⟩ := F.ex
  refine ⟨len, fun A outer s H args us vs Q E hr hg e0 hbd r hsp => LamX.run_ofS lk hcd S hr e0 hbd r (len _ _ _ _ hsp) fun hr' => ?_⟩
  obtain ⟨t, h, q⟩ := hb A outer s H vs Q E hr' hg hsp
  exact ⟨t, h.nox, q⟩
end L2
namespace AW
open PySem PySem.Spec PyProof.Rows L2 LamX ClX
theorem both_nt {A B : Prop} (h : B) : ((!true) = true → A) ∧ ((!true) = false → B) := ⟨fun z => Bool.noConfusion z, fun _ => h⟩
theorem both_nf {A B : Prop} (h : A) : ((!false) = true → A) ∧ ((!false) = false → B) := ⟨fun _ => h, fun z => Bool.noConfusion z⟩
theorem bor_t {A B : Prop} (h : B) : (true = false → A) ∧ (true = true → B) := ⟨fun z => Bool.noConfusion z, fun _ => h⟩
theorem bor_f {A B : Prop} (h : A) : (false = false → A) ∧ (false = true → B) := ⟨fun _ => h, fun z => Bool.noConfusion z⟩
theorem bor_nt {A B : Prop} (h : A) : ((!true) = false → A) ∧ ((!true) = true → B) := ⟨fun _ => h, fun z => Bool.noConfusion z⟩
theorem bor_nf {A B : Prop} (h : B) : ((!false) = false → A) ∧ ((!false) = true → B) := ⟨fun z => Bool.noConfusion z, fun _ => h⟩
theorem keep2 {kn : Hp} {a q : Addr} {o : HO} {u : HO} (h : a ≠ q) (e : kn a = some u) : upd kn q o a = some u := by
  rw [upd_ne h]
  exact e
section
variable {K : PySem.W.Frag} {H H' : Hp} {x : V} {t : Value}
theorem tyof_ext (e : Ext H H') (h : TyOf K H x t) : TyOf K H' x t := by
  cases h with
  | non => exact .non
  | bl x => exact .bl x
  | int i => exact .int i
  | str x => exact .str x
  | flt x => exact .flt x
  | lst h => exact .lst (e _ _ h)
  | frz h => exact .frz (e _ _ h)
  | tup h => exact .tup (e _ _ h)
  | dK h => exact .dK (e _ _ h)
  | dT h => exact .dT (e _ _ h)
  | ins h a b c d m => exact .ins (e _ _ h) a b c d m
theorem tyx_ext (e : Ext H H') (h : TyX K H x t) : TyX K H' x t := by
  cases h with
  | base b => exact .base (tyof_ext e b)
  | byt b => exact .byt b
  | set h => exact .set (e _ _ h)
  | kList h c => exact .kList h c
  | kTuple h c => exact .kTuple h c
  | kDict h c => exact .kDict h c
  | fTuple h => exact .fTuple (e _ _ h)
  | fDict h => exact .fDict (e _ _ h)
end
/-- the wish of errors -/
abbrev EAK := Value → Option Addr → Hp → Nat → Prop
def ErrOk (c : Cw) (EA : EAK) (E : XK) : Prop := ∀ cls d kn' n' H', EA cls d kn' n' → Good c kn' n' H' → E cls d H'
theorem err_no {c : Cw} {E : XK} : ErrOk c (fun _ _ _ _ => False) E := fun _ _ _ _ _ h => h.elim
abbrev bodyX (c : Cw) (E : XK) : EAK := fun cls d kn n => ∀ H', Good c kn n H' → E cls d H'
theorem err_body {c : Cw} {E : XK} : ErrOk c (bodyX c E) E := fun _ _ _ _ H' h g => h H' g
section
variable {c : Cw} {kn : Hp} {n : Nat} {σ : L2.St} {Q : V → Hp → Nat → Prop} {K : PySem.W.Frag} {E : XK} {EA : EAK} {B : List V → Hp → AK → AXK → Prop}
theorem r_isi {x cv : V} {t u : Value} {b : Bool} (k : ClsV cv u) (ty : TyX K kn x t) (e : PySem.W.kitOne K t u = some b) (q : Q (.bl b) kn n) : W c (rIsi K [x, cv]) kn n Q :=
  fun H g _ f => ⟨x, cv, t, u, b, rfl, k, tyx_ext g.ex ty, e, f _ kn n H q g⟩
theorem w_call {dvs : List V} {t : TA} (hm : MonoX B) (hE : ErrOk c EA E) (h : W c (t σ) kn n fun vs kn1 n1 => B (vs ++ dvs) kn1 (fun v k => Q v k n1) (fun cls d k => EA cls d k n1)) : W c (tCall (liftX B) dvs E t σ) kn n Q :=
  w_callX hm hE h
def rIsN : R2 := fun x y H Q => y = V.non ∧ Q (V.bl (decide (x = V.non))) H
theorem c_isN {X : Cx} : OpR X (compareOp .Is) rIsN := op_isN
theorem r_isN {x : V} (q : Q (.bl (decide (x = V.non))) kn n) : W c (rIsN x .non) kn n Q := fun H g _ k => ⟨rfl, k _ kn n H q g⟩
theorem r_isNt (q : Q (V.bl true) kn n) : W c (rIsN .non .non) kn n Q := fun H g _ k => ⟨rfl, k _ kn n H q g⟩
theorem r_isNr {a : Addr} (q : Q (V.bl false) kn n) : W c (rIsN (.ref a) .non) kn n Q := fun H g _ k => ⟨rfl, k _ kn n H q g⟩
theorem r_neV {v : V} (h : scal v v = true) (q : Q (V.bl false) kn n) : W c (rNe v v) kn n Q := r_ne h (by rw [decide_eq_true rfl]; exact q)
theorem r_eqV {v : V} (h : scal v v = true) (q : Q (V.bl true) kn n) : W c (rEq v v) kn n Q := r_eq h (by rw [decide_eq_true rfl]; exact q)
theorem r_neSelf {x : Str} (q : Q (V.bl false) kn n) : W c (rNe (.str x) (.str x)) kn n Q := r_ne rfl (by rw [decide_eq_true rfl]; exact q)
theorem r_eqSelf {x : Str} (q : Q (V.bl true) kn n) : W c (rEq (.str x) (.str x)) kn n Q := r_eq rfl (by rw [decide_eq_true rfl]; exact q)
theorem w_make {C : Addr} {t : TA} (hm : MonoX B) (hE : ErrOk c EA E) (h : W c (t σ) kn n fun vs kn1 n1 => ∀ x dx, kn1 x = none → kn1 dx = none → dx ≠ x →
    B (.ref x :: vs) (upd (upd kn1 dx (.own x)) x (.ins C dx [])) (fun v kn2 => v = .non ∧ Q (.ref x) kn2 n1) (fun cls d k => EA cls d k n1)) : W c (tMake C (liftX B) [] E t σ) kn n Q :=
  fun H g Q' q => h H g _ fun vs kn1 n1 H1 h1 g1 => fun x dx hx hdx hne => by
    have hx2 : upd H1 dx (.own x) x = none := by rw [upd_ne (Ne.symm hne)]; exact hx
    have z := sp_call (c := c) (n := n1) (Q := fun v kn2 n2 => v = .non ∧ Q (.ref x) kn2 n2) hm hE (h1 x dx (g1.free hx) (g1.free hdx) hne) _ ((g1.new hdx).new hx2) (fun v H2 => v = .non ∧ Q' (.ref x) H2)
      (fun v kn2 n2 H2 hq g2 => ⟨hq.1, q _ _ _ _ hq.2 g2⟩)
    have e : vs ++ [] = vs := List.append_nil vs
    rw [e]
    exact z
theorem w_meth {C : Addr} {m : Str} {ta : TE} {t : TA} (hm : MonoX B) (hE : ErrOk c EA E) (h : W c (ta σ) kn n fun x kn1 n1 => ∃ a dx fs, x = .ref a ∧ kn1 a = some (.ins C dx fs) ∧ fs.lookup m = none ∧
    W c (t σ) kn1 n1 fun vs kn2 n2 => B (.ref a :: vs) kn2 (fun v k => Q v k n2) (fun cls d k => EA cls d k n2)) : W c (tMeth C m (liftX B) [] E ta t σ) kn n Q :=
  fun H g Q' q => h H g _ fun x kn1 n1 H1 h1 g1 => by
    obtain ⟨a, dx, fs, rfl, ha, hl, h2⟩ := h1
    refine ⟨a, dx, fs, rfl, g1.ex _ _ ha, hl, h2 H1 g1 _ fun vs kn2 n2 H2 h3 g2 => ?_⟩
    have e : vs ++ [] = vs := List.append_nil vs
    rw [e]
    exact sp_call hm hE h3 H2 g2 Q' q
theorem r_own {op : Operator} {C a dx : Addr} {fs : List (Str × V)} {y : V} {t : Value} (hm : MonoX B) (hE : ErrOk c EA E) (ha : kn a = some (.ins C dx fs)) (ty : TyX K kn y t) (ot : OpT K op C t)
    (h : B [.ref a, y] kn (fun v k => Q v k n) (fun cls d k => EA cls d k n)) : W c (rOwn K op C (liftX B) E (.ref a) y) kn n Q :=
  fun H g Q' q => ⟨a, dx, fs, t, rfl, g.ex _ _ ha, tyx_ext g.ex ty, ot, sp_call hm hE h H g Q' q⟩
theorem r_eqO {C a dx : Addr} {fs : List (Str × V)} {y : V} {t : Value} {neg : Bool} (hm : MonoX B) (ha : kn a = some (.ins C dx fs)) (ty : TyX K kn y t) (nf : PySem.W.notFirst K C t = true)
    (h : B [.ref a, y] kn (fun v k => ∃ b, v = .bl b ∧ Q (.bl (if neg then !b else b)) k n) (fun _ _ _ => False)) : W c (rEqO K C (liftX B) neg (.ref a) y) kn n Q :=
  fun H g Q' q => ⟨a, dx, fs, t, rfl, g.ex _ _ ha, tyx_ext g.ex ty, nf, sp_call (EA := fun _ _ _ _ => False) (Q := fun v k n => ∃ b, v = .bl b ∧ Q (.bl (if neg then !b else b)) k n) hm err_no h H g _ fun v kn1 n1 H1 ⟨b, e, hq⟩ g1 => ⟨b, e, q _ _ _ _ hq g1⟩⟩
theorem r_lenO {C a dx : Addr} {fs : List (Str × V)} (hm : MonoX B) (ha : kn a = some (.ins C dx fs)) (h : B [.ref a] kn (fun v k => ∃ i : Int, v = .int i ∧ (0 ≤ i ∧ i < 2 ^ 63) ∧ Q (.int i) k n) (fun _ _ _ => False)) : W c (rLenO C (liftX B) [.ref a]) kn n Q :=
  fun H g Q' q => ⟨a, dx, fs, rfl, g.ex _ _ ha, sp_call (EA := fun _ _ _ _ => False) (Q := fun v k n => ∃ i : Int, v = .int i ∧ (0 ≤ i ∧ i < 2 ^ 63) ∧ Q (.int i) k n) hm err_no h H g _ fun v kn1 n1 H1 ⟨b, e, e2, hq⟩ g1 => ⟨b, e, e2, q _ _ _ _ hq g1⟩⟩
theorem r_strO {C a dx : Addr} {fs : List (Str × V)} (hm : MonoX B) (ha : kn a = some (.ins C dx fs)) (h : B [.ref a] kn (fun v k => ∃ x : Str, v = .str x ∧ Q (.str x) k n) (fun _ _ _ => False)) : W c (rStrO C (liftX B) [.ref a]) kn n Q :=
  fun H g Q' q => ⟨a, dx, fs, rfl, g.ex _ _ ha, sp_call (EA := fun _ _ _ _ => False) (Q := fun v k n => ∃ x : Str, v = .str x ∧ Q (.str x) k n) hm err_no h H g _ fun v kn1 n1 H1 ⟨b, e, hq⟩ g1 => ⟨b, e, q _ _ _ _ hq g1⟩⟩
theorem w_cval {ta : TE} {f : Str} (h : W c (ta σ) kn n fun x kn1 n1 => ∃ C mc v u, x = .ref C ∧ CRead K C mc ∧ CVal K C mc f v u ∧ Q v kn1 n1) : W c (tCVal K ta f σ) kn n Q :=
  fun H g Q' q => h H g _ fun x kn1 n1 H1 ⟨C, mc, v, u, e, r, cv, hq⟩ g1 => ⟨C, mc, v, u, e, r, cv, q _ _ _ _ hq g1⟩
theorem w_tupRg {ta tb : TE} (h : W c (ta σ) kn n fun x kn1 n1 => W c (tb σ) kn1 n1 fun y kn2 n2 => ∃ i j, x = .int i ∧ y = .int j ∧ RgOk i j ∧ ∀ q, kn2 q = none → Q (.ref q) (upd kn2 q (.tup (rgV i j))) n2) : W c (tTupRg (tRg2 ta tb) σ) kn n Q :=
  fun H g Q' q => h H g _ fun x kn1 n1 H1 h1 g1 => h1 H1 g1 _ fun y kn2 n2 H2 ⟨i, j, e1, e2, ok, h2⟩ g2 => ⟨i, j, e1, e2, ok, fun p hp => q _ _ _ _ (h2 p (g2.free hp)) (g2.new hp)⟩
theorem w_fmtI {te : TE} (h : W c (te σ) kn n fun x kn1 n1 => ∃ i : Int, x = .int i ∧ i.natAbs.log2 < 1920 ∧ Q (.str (toString i)) kn1 n1) : W c (tFmt te σ) kn n Q :=
  fun H g Q' q => h H g _ fun x kn1 n1 H1 ⟨i, e, hi, hq⟩ g1 => .inr ⟨i, e, hi, q _ _ _ _ hq g1⟩
theorem w_fmtS {te : TE} (h : W c (te σ) kn n fun x kn1 n1 => ∃ y : Str, x = .str y ∧ y.length ≤ sizeLine ∧ Q (.str y) kn1 n1) : W c (tFmt te σ) kn n Q :=
  fun H g Q' q => h H g _ fun x kn1 n1 H1 ⟨i, e, hi, hq⟩ g1 => .inl ⟨i, e, hi, q _ _ _ _ hq g1⟩
theorem w_js0 {acc : Str} {QS : Str → Hp → Nat → Prop} (q : QS acc kn n) : W c (tJs [] acc σ) kn n QS := fun H g _ k => k _ kn n H q g
theorem w_js {t : TE} {ts : List TE} {acc : Str} {QS : Str → Hp → Nat → Prop} (h : W c (t σ) kn n fun x kn1 n1 => ∃ y : Str, x = .str y ∧ (acc ++ y).length ≤ sizeLine ∧ W c (tJs ts (acc ++ y) σ) kn1 n1 QS) : W c (tJs (t :: ts) acc σ) kn n QS :=
  fun H g Q' q => h H g _ fun x kn1 n1 H1 ⟨y, e, hl, h2⟩ g1 => ⟨y, e, hl, h2 H1 g1 Q' q⟩
theorem w_joined {ts : List TE} (h : W c (tJs ts Str.empty σ) kn n fun out kn1 n1 => Q (.str out) kn1 n1) : W c (fun H Q' => tJs ts Str.empty σ H fun out H1 => Q' (.str out) H1) kn n Q :=
  fun H g Q' q => h H g _ fun out kn1 n1 H1 h1 g1 => q _ _ _ _ h1 g1
theorem r_repr {a : Addr} {d : PyData} (hd : Dp K kn (.ref a) d) (h1 : d.showable = true) (h2 : d.hasDict = false) (h3 : d.depth ≤ 64) (h4 : d.shown.length ≤ sizeLine) (q : Q (.str d.shown) kn n) : W c (rRepr K [.ref a]) kn n Q :=
  fun H g _ k => ⟨a, d, rfl, Dp.ext g.ex d _ hd, h1, h2, h3, h4, k _ kn n H q g⟩
theorem r_isK {a D dd : Addr} {fs : List (Str × V)} {cv : V} {u : Value} {b : Bool} (k : ClsV cv u) (ea : kn a = some (exh a (.ref D) (some dd))) (ed : kn dd = some (.xd fs)) (ex : ExcC K D) (e : PySem.W.kitOne K (.ref D) u = some b) (q : Q (.bl b) kn n) : W c (rIsK K [.ref a, cv]) kn n Q :=
  fun H g _ f => ⟨a, D, dd, fs, cv, u, b, rfl, k, g.ex _ _ ea, g.ex _ _ ed, ex, e, f _ kn n H q g⟩
theorem w_xk {te : TE} {f : Str} (h : W c (te σ) kn n fun x kn1 n1 => ∃ (a C dd : Addr) (fs : List (Str × V)) (v : V), x = .ref a ∧ kn1 a = some (exh a (.ref C) (some dd)) ∧ kn1 dd = some (.xd fs) ∧ XfC K C ∧ PySem.W.findIn K (.ref C) f = some none ∧ fs.lookup f = some v ∧ Q v kn1 n1) : W c (tXk K te f σ) kn n Q :=
  fun H g Q' q => h H g _ fun x kn1 n1 H1 ⟨a, C, dd, fs, v, e, ea, ed, xf, hn, hl, hq⟩ g1 => ⟨a, C, dd, fs, v, e, g1.ex _ _ ea, g1.ex _ _ ed, xf, hn, hl, q _ _ _ _ hq g1⟩
theorem w_dnew (h : ∀ q, kn q = none → Q (.ref q) (upd kn q (.dK [])) n) : W c (tDNewK σ) kn n Q := fun H g Q' q => fun p hp => q _ _ _ _ (h p (g.free hp)) (g.new hp)
theorem w_chain {r r' : R2} {ta tb tc : TE} (h : W c (ta σ) kn n fun x kn1 n1 => W c (tb σ) kn1 n1 fun y kn2 n2 => W c (r x y) kn2 n2 fun z kn3 n3 => ∃ k, z = .bl k ∧ (k = true → W c (tc σ) kn3 n3 fun w kn4 n4 => W c (r' y w) kn4 n4 Q) ∧ (k = false → Q (.bl false) kn3 n3)) : W c (tChain r r' ta tb tc σ) kn n Q :=
  fun H g Q' q => h H g _ fun x kn1 n1 H1 h1 g1 => h1 H1 g1 _ fun y kn2 n2 H2 h2 g2 => h2 H2 g2 _ fun z kn3 n3 H3 h3 g3 => by
    obtain ⟨k, e, a, b⟩ := h3
    refine ⟨k, e, ?_⟩
    cases k with
    | true => exact iteT (a rfl H3 g3 _ fun w kn4 n4 H4 h4 g4 => h4 H4 g4 Q' q)
    | false => exact iteF (q _ _ _ _ (b rfl) g3)
variable {D : AE}
theorem s_fld {ta tv : TE} {f : Str} (h : W c (tv σ) kn n fun y kn1 n1 => W c (ta σ) kn1 n1 fun x kn2 n2 => ∃ a C dx fs, x = .ref a ∧ kn2 a = some (.ins C dx fs) ∧ Cls K C ∧ NoAttr K C f ∧ fs.length < 1000 ∧ D.nx σ (upd kn2 a (.ins C dx (putF f y fs))) n2) : WS c (sFld K ta tv f) D σ kn n :=
  fun H g D' fit => h H g _ fun y kn1 n1 H1 h1 g1 => h1 H1 g1 _ fun x kn2 n2 H2 ⟨a, C, dx, fs, e, ha, cl, na, hl, hq⟩ g2 => ⟨a, C, dx, fs, e, g2.ex _ _ ha, cl, na, hl, fit.nx _ _ _ _ hq (g2.put ha rfl)⟩
theorem s_aug {i : Nat} {te : TE} {ti : TIp} {x : V} (hv : σ[i]? = some (some x)) (h : W c (te σ) kn n fun y kn1 n1 => W c (ti x y) kn1 n1 fun z kn2 n2 => D.nx (σ.set i (some z)) kn2 n2) : WS c (tAug i te ti) D σ kn n :=
  fun H g D' fit => ⟨x, hv, h H g _ fun y kn1 n1 H1 h1 g1 => h1 H1 g1 _ fun z kn2 n2 H2 h2 g2 => fit.nx _ _ _ _ h2 g2⟩
theorem room_u128 {k : Nat} {A : Around} (r : Room k A) : A.units + 128 < cLine := by have := r.un; omega
/-- an error class whose __init__ sets one field -/
def spX1 (K : PySem.W.Frag) (f : Str) : Sp := fun vs H Q _ => ∃ (a C : Addr) (y : V), vs = [.ref a, y] ∧ OexC K C ∧ PySem.W.findIn K (.ref C) f = some none ∧ H a = some (exo a C none) ∧
  ∀ dx, H dx = none → dx ≠ a → Q .non (upd (upd H dx (exd dx [(f, y)])) a (exo a C (some dx)))
theorem x1_end {H : Hp} {a d : Addr} {o1 o2 o3 o4 : HO} (ha : H a = none) (hd : d ≠ a) : upd (del (upd (upd (upd H a o1) d o2) a o3) a) d o4 = upd H d o4 := by
  funext x
  by_cases h1 : x = d
  · rw [h1, upd_same, upd_same]
  · rw [upd_ne h1, upd_ne h1]
    by_cases h2 : x = a
    · rw [h2, del_same, ha]
    · rw [del_ne h2, upd_ne h2, upd_ne h1, upd_ne h2]
theorem s_raise1 {C : Addr} {f : Str} {ta : TA} (oc : OexC K C) (hf : PySem.W.findIn K (.ref C) f = some none) (hE : ErrOk c EA E)
    (h : W c (ta σ) kn n fun vs kn1 n1 => ∃ y, vs = [y] ∧ ∀ d, kn1 d = none → EA (.ref C) (some d) (upd kn1 d (.xd [(f, y)])) n1) :
    WS c (fun _ σ H => tMkO C (spX1 K f) [] ta σ H fun cls d H' => E cls d H') D σ kn n :=
  fun H g D' fit => h H g _ fun vs kn1 n1 H1 ⟨y, e, h1⟩ g1 => by
    subst e
    refine ⟨Nat.le_add_left 1 999, fun a ha => ⟨a, C, y, rfl, oc, hf, upd_same, fun d hd hda => ⟨rfl, d, [(f, y)], upd_same, ?_, ?_, ?_⟩⟩⟩
    · rw [upd_ne hda, upd_same]
    · rw [upd_ne hda] at hd
      exact hd
    · rw [upd_ne hda] at hd
      rw [x1_end ha hda]
      exact hE _ _ _ _ _ (h1 d (g1.free hd)) (g1.new hd)
end
end AW

/-! x in o, x not in o: o of an own class with __contains__; truth of an own class by __bool__ or __len__ is not here. -/
namespace L2
open PySem PySem.Spec PyProof.Rows
section
variable {X : Cx} {CX : CXT} {k : Nat} {f C : Addr} {fd : FuncData} {ps : List Str} {sp : Sp}
def rInO (C : Addr) (sp : Sp) (neg : Bool) : R2 := fun x y H Q => ∃ a dx fs, y = .ref a ∧ H a = some (.ins C dx fs) ∧ sp [.ref a, x] H (fun v H' => ∃ b, v = .bl b ∧ Q (.bl (if neg then !b else b)) H') (fun _ _ _ => False)
theorem op_inO (M : SpM X.K C f "__contains__") (F : FnOk X.prog X.w X.K X.mg X.base CX k f fd ps sp) (hr : Room k X.A) (hb : Binds X.K fd ps []) (hx : Passes CX X (fun _ _ _ => False)) : OpR X (compareOp .In) (rInO C sp false) := by
  intro pins s σ H x y v u Q I rx ry h
  obtain ⟨a, dx, fs, rfl, ha, hq⟩ := h
  cases (show u = Value.ref a from ry)
  obtain ⟨_, J, _⟩ := ins_get I.hok ha
  obtain ⟨_, J, _⟩ := J.look
  obtain ⟨_, hF⟩ := I.fr
  refine PySem.W.in_K hF I.ok.mod.kin J M.hs M.hf (wpAny_mono (callA (vs := [.ref a, x]) F hr rfl hb hx I (.cons rfl (.cons rx .nil)) hq) (fun z s' hz => ?_) fun _ _ z => z)
  obtain ⟨v', H', I', rv, b, e, q⟩ := hz
  subst e
  cases (show z = Value.bool b from rv)
  exact wpAny_truthy_bool ⟨.bl b, H', I', rfl, q⟩
theorem op_notInO (M : SpM X.K C f "__contains__") (F : FnOk X.prog X.w X.K X.mg X.base CX k f fd ps sp) (hr : Room k X.A) (hb : Binds X.K fd ps []) (hx : Passes CX X (fun _ _ _ => False)) : OpR X (compareOp .NotIn) (rInO C sp true) := by
  intro pins s σ H x y v u Q I rx ry h
  obtain ⟨a, dx, fs, rfl, ha, hq⟩ := h
  cases (show u = Value.ref a from ry)
  obtain ⟨_, J, _⟩ := ins_get I.hok ha
  obtain ⟨_, J, _⟩ := J.look
  obtain ⟨_, hF⟩ := I.fr
  refine PySem.W.notIn_K hF I.ok.mod.kin J M.hs M.hf (wpAny_mono (callA (vs := [.ref a, x]) F hr rfl hb hx I (.cons rfl (.cons rx .nil)) hq) (fun z s' hz => ?_) fun _ _ z => z)
  obtain ⟨v', H', I', rv, b, e, q⟩ := hz
  subst e
  cases (show z = Value.bool b from rv)
  exact wpAny_truthy_bool ⟨.bl (!b), H', I', rfl, q⟩
end
end L2
namespace AW
open PySem PySem.Spec PyProof.Rows L2
section
variable {c : Cw} {kn : Hp} {n : Nat} {Q : V → Hp → Nat → Prop} {B : List V → Hp → AK → AXK → Prop}
theorem r_inO {C a dx : Addr} {fs : List (Str × V)} {x : V} {neg : Bool} (hm : MonoX B) (ha : kn a = some (.ins C dx fs)) (h : B [.ref a, x] kn (fun v k => ∃ b, v = .bl b ∧ Q (.bl (if neg then !b else b)) k n) (fun _ _ _ => False)) : W c (rInO C (liftX B) neg x (.ref a)) kn n Q :=
  fun H g Q' q => ⟨a, dx, fs, rfl, g.ex _ _ ha, sp_call (EA := fun _ _ _ _ => False) (Q := fun v k n => ∃ b, v = .bl b ∧ Q (.bl (if neg then !b else b)) k n) hm err_no h H g _ fun v kn1 n1 H1 ⟨b, e, hq⟩ g1 => ⟨b, e, q _ _ _ _ hq g1⟩⟩
end
end AW

namespace L2
open PySem PySem.Spec PyProof.Rows Builtin
theorem int_eq_inst (b : Int) (u : Tok) (x C dx : Addr) :
    Meets (Builtin.«int.__eq__» ⟨[.int b u, .ref x], []⟩) (fun _ R s => s.heap.get? x = some (PySem.W.instObj C dx) ∧ R (.ok (.ret .notImplemented)) s) :=
  .of_wp fun prog w A R s h => by
    obtain ⟨hp, g, d, tk, os⟩ := s
    obtain ⟨hl, h⟩ := h
    unfold PySem.W.instObj at hl
    wp_walk using wpAny_loadPart' hl, wpAny_load hl
    exact ⟨_, rfl, h⟩
theorem bool_eq_inst (b : Bool) (x C dx : Addr) :
    Meets (Builtin.«int.__eq__» ⟨[.bool b, .ref x], []⟩) (fun _ R s => s.heap.get? x = some (PySem.W.instObj C dx) ∧ R (.ok (.ret .notImplemented)) s) :=
  .of_wp fun prog w A R s h => by
    obtain ⟨hp, g, d, tk, os⟩ := s
    obtain ⟨hl, h⟩ := h
    unfold PySem.W.instObj at hl
    wp_walk using wpAny_loadPart' hl, wpAny_load hl
    exact ⟨_, rfl, h⟩
theorem str_eq_inst (b : Str) (u : Tok) (x C dx : Addr) :
    Meets (Builtin.«str.__eq__» ⟨[.str b u, .ref x], []⟩) (fun _ R s => s.heap.get? x = some (PySem.W.instObj C dx) ∧ R (.ok (.ret .notImplemented)) s) :=
  .of_wp fun prog w A R s h => by
    obtain ⟨hp, g, d, tk, os⟩ := s
    obtain ⟨hl, h⟩ := h
    unfold PySem.W.instObj at hl
    wp_walk using wpAny_loadPart' hl, wpAny_load hl
    exact ⟨_, rfl, h⟩
theorem tup_eq_inst (l x : Addr) :
    Meets (Builtin.«tuple.__eq__» ⟨[.ref l, .ref x], []⟩) (fun _ R s => (∀ (M : Model) (A : Around) (Q : Bool → Shared → Prop) (E : Value → Shared → Prop), Q false s → wpAny M A (isInstance (.ref x) (.type "tuple")) Q E s) ∧ R (.ok (.ret .notImplemented)) s) :=
  .of_wp fun prog w A R s h => by
    obtain ⟨hp, g, d, tk, os⟩ := s
    obtain ⟨hl, h⟩ := h
    wp_walk using hl _ _ _ _
    exact ⟨_, rfl, h⟩
theorem lst_eq_inst (l x : Addr) :
    Meets (Builtin.«list.__eq__» ⟨[.ref l, .ref x], []⟩) (fun _ R s => (∀ (M : Model) (A : Around) (Q : Bool → Shared → Prop) (E : Value → Shared → Prop), Q false s → wpAny M A (isInstance (.ref x) (.type "list")) Q E s) ∧ R (.ok (.ret .notImplemented)) s) :=
  .of_wp fun prog w A R s h => by
    obtain ⟨hp, g, d, tk, os⟩ := s
    obtain ⟨hl, h⟩ := h
    wp_walk using hl _ _ _ _
    exact ⟨_, rfl, h⟩
section
variable {prog : Program} {w : World} {A : Around} {E : Value → Shared → Prop} {s : Shared} {K : PySem.W.Frag} {x C f : Addr} {ox : Obj} {od : Option Obj} {b : Value} {T id : String} {Q : Value → Shared → Prop}
/-- b == x, b of a built-in type that declines, x's class has an own == -/
theorem eq_back (hu : A.units < cLine) (X : K.In s.heap) (I : PySem.W.InstAt s.heap x ox C od) (hT : s.TypeIs b T) (slot : Slot T "__eq__" id) (hs : PySem.W.findIn K (.ref C) "__eq__" = some (some (.ref f))) (hf : PySem.W.isFn K (.ref f) = true) (sub : PySem.W.subIn K (.ref C) (.type T) = some false)
    (dec : ∀ (P : Value → Shared → Prop) (E' : Value → Shared → Prop), P .notImplemented s → wpAny (model prog w) A (call (.builtin id) [b, .ref x]) P E' s)
    (h : wpAny (model prog w) A (call (.ref f) [.ref x, b]) (PySem.W.CmpBack Q) E s) : wpAny (model prog w) A (richCompare .Eq b (.ref x)) Q E s := by
  have ne : ((Value.type T) != (Value.ref C)) = true := rfl
  simp only [richCompare, cmpInfo_Eq, hT.oneThing_none]
  refine wpAny_holding (wpAny_bind (wpAny_cRoomFor hu ?_))
  refine wpAny_bind (wpAny_typeOf hT ?_)
  refine wpAny_bind (I.type.here ?_)
  rw [if_pos ne]
  refine wpAny_bind ((PySem.W.looks_subIn X sub).here ?_)
  simp only [Bool.false_eq_true, if_false, Bool.not_false, if_true]
  refine wpAny_bind (m := tryCompare b _ (.ref x)) (wpAny_tryCompare_declines hT slot (dec _ _ ⟨rfl, ?_⟩))
  refine wpAny_bind (m := tryCompare (.ref x) _ b) ?_
  unfold tryCompare
  refine wpAny_bind (PySem.W.ifBound_K X I hs hf (wpAny_mono h (fun v s' hv => ?_) fun _ _ e => e))
  cases v <;> first | exact hv.elim | exact wpAny_pure (wpAny_pure hv)
end
end L2

/-! x in a list, where == of an item may run a def of the text. -/
namespace L2
open PySem PySem.Spec PyProof.Rows PySem.SeqAt
abbrev lstOf (items : Array Value) (n : Nat) : Obj := { cls := .type "list", dict := none, data := .seq items n, slots := #[] }
/-- the turns that are left, the spot -/
def EqChain (prog : Program) (w : World) (A : Around) (l : Addr) (x : Value) : Nat → Nat → (Result → Shared → Prop) → Shared → Prop
  | 0, i, R, s => ∃ items n, s.heap.get? l = some (lstOf items n) ∧ items[i]? = none ∧ R (.ok (.ret (.bool false))) s
  | m + 1, i, R, s => ∃ items n y, s.heap.get? l = some (lstOf items n) ∧ items[i]? = some y ∧ wpAny (model prog w) A (eqBool y x) (fun b s' => (b = true → R (.ok (.ret (.bool true))) s') ∧ (b = false → EqChain prog w A l x m (i + 1) R s')) (fun e s' => R (.error e) s') s
theorem contains_chain {prog : Program} {w : World} {l : Addr} {x : Value} (m : Nat) :
    ∀ i : Nat, MeetsIn prog w (Builtin.«list.__contains__.loop» ⟨[.ref l, x, rawInt i], []⟩) (fun A R s => EqChain prog w A.in1 l x m i R s) := by
  induction m with
  | zero =>
    intro i A R s h
    obtain ⟨hp, g, d, tk, os⟩ := s
    obtain ⟨items, n, hl, hi, h⟩ := h
    wp_walk using wpAny_loadPart' hl
    have none_at : items[((i : Nat) : Int).toNat]? = none := by simpa using hi
    rw [none_at]
    wp_walk
    exact h
  | succ m ih =>
    intro i A R s h
    obtain ⟨hp, g, d, tk, os⟩ := s
    obtain ⟨items, n, y, hl, hi, h⟩ := h
    wp_walk using wpAny_loadPart' hl
    have some_at : items[((i : Nat) : Int).toNat]? = some y := by simpa using hi
    rw [some_at]
    refine wpAny_bind (wpAny_mono h (fun b s' hb => ?_) fun _ _ z => z)
    obtain ⟨ht, hf⟩ := hb
    cases b with
    | true =>
      wp_walk
      exact ht rfl
    | false =>
      have cast1 : ((i : Int) + 1) = ((i + 1 : Nat) : Int) := by push_cast; rfl
      wp_walk
      rw [cast1]
      refine ⟨plainId_quiet MeetsSeq.plain_contains_loop _, codeAny_builtin MeetsSeq.entry_contains_loop ?_⟩
      rw [Around.under_plainId MeetsSeq.plain_contains_loop _]
      exact ih (i + 1) A R s' (hf rfl)
theorem contains_list {prog : Program} {w : World} {l : Addr} {x : Value} (m : Nat) :
    MeetsIn prog w (Builtin.«list.__contains__» ⟨[.ref l, x], []⟩) (fun A R s => s.TypeIs (.ref l) "list" ∧ EqChain prog w A.in1 l x m 0 R s) := by
  intro A R s h
  obtain ⟨hp, g, d, tk, os⟩ := s
  obtain ⟨hl, h⟩ := h
  wp_walk
  refine ⟨plainId_quiet MeetsSeq.plain_contains_loop _, codeAny_builtin MeetsSeq.entry_contains_loop ?_⟩
  rw [Around.under_plainId MeetsSeq.plain_contains_loop _]
  exact contains_chain m 0 A R _ h
theorem in_chain {prog : Program} {w : World} {A : Around} {E : Value → Shared → Prop} {s : Shared} {l : Addr} {x : Value} {Q : Value → Shared → Prop} (m : Nat) (hl : s.TypeIs (.ref l) "list")
    (h : EqChain prog w A.in1 l x m 0 (wants (fun v s' => ∃ b, v = .bool b ∧ Q (.bool b) s') E) s) : wpAny (model prog w) A (compareOp .In x (.ref l)) Q E s := by
  show wpAny _ A (do return .bool (← contains (.ref l) x)) Q E s
  refine wpAny_bind (wpAny_contains_slot (T := "list") hl F.slot_list_contains (wpAny_mono (call_meetsIn F.slot_list_contains hl F.entry_list_contains (F.args_list_contains_2 _ _) (contains_list m) ⟨hl, h⟩) (fun v s' hv => ?_) fun _ _ e => e))
  obtain ⟨b, rfl, hq⟩ := hv
  exact wpAny_truthy_bool (wpAny_pure hq)
end L2

/-! o in a list of built-in values, o of an own class with an own ==. -/
namespace L2
open PySem PySem.Spec PyProof.Rows PySem.SeqAt
/-- a built-in value whose == leaves the answer to the class at C -/
inductive BackV (K : PySem.W.Frag) (H : Hp) (C : Addr) : V → Prop where
  | non (h : PySem.W.subIn K (.ref C) (.type "NoneType") = some false) : BackV K H C .non
  | bl (b : Bool) (h : PySem.W.subIn K (.ref C) (.type "bool") = some false) : BackV K H C (.bl b)
  | int (i : Int) (h : PySem.W.subIn K (.ref C) (.type "int") = some false) : BackV K H C (.int i)
  | str (x : Str) (h : PySem.W.subIn K (.ref C) (.type "str") = some false) : BackV K H C (.str x)
  | lst {l : Addr} {xs : List V} (e : H l = some (.lst xs)) (h : PySem.W.subIn K (.ref C) (.type "list") = some false) : BackV K H C (.ref l)
  | tup {l : Addr} {xs : List V} (e : H l = some (.tup xs)) (h : PySem.W.subIn K (.ref C) (.type "tuple") = some false) : BackV K H C (.ref l)
def InCh (K : PySem.W.Frag) (C a l : Addr) (vs : List V) (sp : Sp) : List V → Hp → VK → Prop
  | [], H, Q => Q (.bl false) H
  | v :: r, H, Q => BackV K H C v ∧ sp [.ref a, v] H (fun u H1 => ∃ b, u = .bl b ∧ H1 l = some (.lst vs) ∧ (∃ dx fs, H1 a = some (.ins C dx fs)) ∧ (b = true → Q (.bl true) H1) ∧ (b = false → InCh K C a l vs sp r H1 Q)) (fun _ _ _ => False)
def rInLO (K : PySem.W.Frag) (C : Addr) (sp : Sp) : R2 := fun x y H Q => ∃ a dx fs l vs, x = .ref a ∧ y = .ref l ∧ H a = some (.ins C dx fs) ∧ H l = some (.lst vs) ∧ InCh K C a l vs sp vs H Q
section
variable {X : Cx} {CX : CXT} {k : Nat} {f C a l : Addr} {fd : FuncData} {ps : List Str} {sp : Sp} {pins : List (Addr × Obj)} {σ : St} {H : Hp} {s : Shared} {v : V} {u : Value} {dx : Addr} {fs : List (Str × V)}
theorem eqBool_back {A : Around} {Q : Bool → Shared → Prop} {E : Value → Shared → Prop} (hu : A.units < cLine) (M : EqM X.K C f) (I : Inv X pins σ H s) (ha : H a = some (.ins C dx fs)) (b : BackV X.K H C v) (r : RelV v u)
    (h : wpAny (model X.prog X.w) A (call (.ref f) [.ref a, u]) (PySem.W.CmpBack fun z s' => wpAny (model X.prog X.w) A (truthOfDropped z) Q E s') E s) : wpAny (model X.prog X.w) A (eqBool u (.ref a)) Q E s := by
  obtain ⟨mA, J, _⟩ := ins_get I.hok ha
  obtain ⟨od, J, _⟩ := J.look
  have KI := I.kIn
  have isI : ∀ {T : String}, PySem.W.subIn X.K (.ref C) (.type T) = some false → ∀ (M : Model) (A : Around) (Q : Bool → Shared → Prop) (E : Value → Shared → Prop), Q false s → wpAny M A (isInstance (.ref a) (.type T)) Q E s := fun {T} h M' A' Q' E' q => (J.type.andThen (f := fun t => isSubtype t (.type T)) (PySem.W.looks_subIn KI h)).here q
  unfold eqBool
  refine wpAny_holding ?_
  cases b with
  | non hs =>
    cases (show u = Value.none from r)
    refine wpAny_ite_split (fun z => absurd (eq_of_beq z) nofun) (fun _ => ?_)
    refine wpAny_bind (eq_back hu KI J (T := "NoneType") rfl F.slot_NoneType_eq M.hs M.hf hs (fun P E' p => call_gives F.slot_NoneType_eq rfl F.entry_NoneType_eq (F.args_NoneType_eq_2 _ _) (NoneType___eq___none_ref_0 a) p) h)
  | bl y hs =>
    cases (show u = Value.bool y from r)
    refine wpAny_ite_split (fun z => absurd (eq_of_beq z) nofun) (fun _ => ?_)
    refine wpAny_bind (eq_back hu KI J (T := "bool") rfl F.slot_bool_eq M.hs M.hf hs (fun P E' p => call_meets F.slot_bool_eq rfl F.entry_int_eq (F.args_int_eq_2 _ _) (bool_eq_inst y a C dx) ⟨J.1, p⟩) h)
  | int y hs =>
    obtain ⟨t, rfl⟩ := (show ∃ t, u = Value.int y t from r)
    refine wpAny_ite_split (fun z => absurd (eq_of_beq z) nofun) (fun _ => ?_)
    refine wpAny_bind (eq_back hu KI J (T := "int") (typeIs_int _ _ _) F.slot_int_eq M.hs M.hf hs (fun P E' p => call_meets F.slot_int_eq (typeIs_int _ _ _) F.entry_int_eq (F.args_int_eq_2 _ _) (int_eq_inst y t a C dx) ⟨J.1, p⟩) h)
  | str y hs =>
    obtain ⟨t, rfl⟩ := (show ∃ t, u = Value.str y t from r)
    refine wpAny_ite_split (fun z => absurd (eq_of_beq z) nofun) (fun _ => ?_)
    refine wpAny_bind (eq_back hu KI J (T := "str") (typeIs_str _ _ _) F.slot_str_eq M.hs M.hf hs (fun P E' p => call_meets F.slot_str_eq (typeIs_str _ _ _) F.entry_str_eq (F.args_str_eq_2 _ _) (str_eq_inst y t a C dx) ⟨J.1, p⟩) h)
  | @lst l xs e hs =>
    cases (show u = Value.ref l from r)
    have ne : l ≠ a := fun z => by rw [z, ha] at e; cases e
    obtain ⟨_, its, n, _, _, e1⟩ := I.lstM e
    refine wpAny_ite_split (fun z => absurd (Value.ref.inj (eq_of_beq z)) ne) (fun _ => ?_)
    refine wpAny_bind (eq_back hu KI J (T := "list") ⟨_, e1, rfl⟩ F.slot_list_eq M.hs M.hf hs (fun P E' p => call_meets F.slot_list_eq ⟨_, e1, rfl⟩ F.entry_list_eq (F.args_list_eq_2 _ _) (lst_eq_inst l a) ⟨isI hs, p⟩) h)
  | @tup l xs e hs =>
    cases (show u = Value.ref l from r)
    have ne : l ≠ a := fun z => by rw [z, ha] at e; cases e
    obtain ⟨its, _, pl, _⟩ := I.tuple (.inl (.inl e))
    obtain ⟨o, ho, hc, _⟩ := pl
    refine wpAny_ite_split (fun z => absurd (Value.ref.inj (eq_of_beq z)) ne) (fun _ => ?_)
    refine wpAny_bind (eq_back hu KI J (T := "tuple") ⟨o, ho, hc⟩ F.slot_tuple_eq M.hs M.hf hs (fun P E' p => call_meets F.slot_tuple_eq ⟨o, ho, hc⟩ F.entry_tuple_eq (F.args_tuple_eq_2 _ _) (tup_eq_inst l a) ⟨isI hs, p⟩) h)
theorem in_walk {Q : VK} (hu : X.A.in1.units < cLine) (M : EqM X.K C f) (F : FnOk X.prog X.w X.K X.mg X.base CX k f fd ps sp) (hr : Room k X.A.in1) (hb : Binds X.K fd ps []) (hx : Passes CX X (fun _ _ _ => False)) {vs : List V} :
    ∀ (r done : List V) (H : Hp) (s : Shared), vs = done ++ r → Inv X pins σ H s → (∃ dx fs, H a = some (.ins C dx fs)) → H l = some (.lst vs) → InCh X.K C a l vs sp r H Q →
      EqChain X.prog X.w X.A.in1 l (.ref a) r.length done.length (wants (fun v s' => ∃ b, v = .bool b ∧ EP X pins σ Q (.bool b) s') X.xe) s := by
  intro r
  induction r with
  | nil =>
    intro done H s e I ha hl h
    obtain ⟨_, its, n, rv, hlen, e1⟩ := I.lstM hl
    refine ⟨its.toArray, n, e1, ?_, ⟨false, rfl, .bl false, H, I, rfl, h⟩⟩
    rw [List.getElem?_toArray, List.getElem?_eq_none]
    rw [← hlen, e, List.append_nil]
    exact Nat.le_refl _
  | cons v r ih =>
    intro done H s e I ha hl h
    obtain ⟨dx, fs, ha⟩ := ha
    obtain ⟨bv, hsp⟩ := h
    obtain ⟨_, its, n, rv, hlen, e1⟩ := I.lstM hl
    have at_v : vs[done.length]? = some v := by rw [e]; simp
    obtain ⟨u, hu1, ru⟩ := rv.get at_v
    refine ⟨its.toArray, n, u, e1, by rw [List.getElem?_toArray]; exact hu1, ?_⟩
    refine eqBool_back hu M I ha bv ru (wpAny_mono (callA (A := X.A.in1) (vs := [.ref a, v]) F hr rfl hb hx I (.cons rfl (.cons ru .nil)) hsp) (fun z s' hz => ?_) fun _ _ z => z)
    obtain ⟨v', H', I', rv', b, eb, hl', ha', ht, hf⟩ := hz
    subst eb
    cases (show z = Value.bool b from rv')
    show wpAny _ _ (truthOfDropped (.bool b)) _ _ _
    refine (show wpAny _ _ (truthy (.bool b)) _ _ _ from wpAny_truthy_bool ⟨fun hbt => ?_, fun hbf => ?_⟩)
    · exact ⟨true, rfl, .bl true, H', I', rfl, ht hbt⟩
    · have q := ih (done ++ [v]) H' s' (by rw [e]; simp) I' ha' hl' (hf hbf)
      rw [List.length_append] at q
      exact q
theorem op_inLO (M : EqM X.K C f) (F : FnOk X.prog X.w X.K X.mg X.base CX k f fd ps sp) (hr : Room (k + 1) X.A) (hb : Binds X.K fd ps []) (hx : Passes CX X (fun _ _ _ => False)) : OpR X (compareOp .In) (rInLO X.K C sp) := by
  intro pins s σ H x y v u Q I rx ry h
  obtain ⟨a, dx, fs, l, vs, rfl, rfl, ha, hl, h⟩ := h
  cases (show v = Value.ref a from rx)
  cases (show u = Value.ref l from ry)
  obtain ⟨_, its, n, _, _, e1⟩ := I.lstM hl
  exact in_chain vs.length ⟨_, e1, rfl⟩ (in_walk hr.in1.units0 M F hr.in1 hb hx vs [] H s rfl I ⟨dx, fs, ha⟩ hl h)
end
end L2
namespace AW
open PySem PySem.Spec PyProof.Rows L2
theorem backV_ext {K : PySem.W.Frag} {H H' : Hp} {C : Addr} {v : V} (e : Ext H H') (b : BackV K H C v) : BackV K H' C v := by
  cases b with
  | non h => exact .non h
  | bl b h => exact .bl b h
  | int i h => exact .int i h
  | str x h => exact .str x h
  | lst q h => exact .lst (e _ _ q) h
  | tup q h => exact .tup (e _ _ q) h
/-- none of the items is equal -/
theorem r_inL_no {K : PySem.W.Frag} {c : Cw} {kn : Hp} {n : Nat} {Q : V → Hp → Nat → Prop} {B : List V → Hp → AK → AXK → Prop} {C a l dx : Addr} {fs : List (Str × V)} {vs : List V} (hm : MonoX B) (ha : kn a = some (.ins C dx fs)) (hl : kn l = some (.lst vs))
    (hv : ∀ v ∈ vs, BackV K kn C v ∧ B [.ref a, v] kn (fun u k => u = .bl false ∧ k = kn) (fun _ _ _ => False)) (q : Q (.bl false) kn n) : W c (rInLO K C (liftX B) (.ref a) (.ref l)) kn n Q := by
  intro H g Q' k
  have walk : ∀ (r : List V), (∀ v ∈ r, v ∈ vs) → ∀ H, Good c kn n H → InCh K C a l vs (liftX B) r H Q' := by
    intro r
    induction r with
    | nil => exact fun _ H g => k _ _ _ _ q g
    | cons v r ih =>
      intro hr H g
      obtain ⟨b, h⟩ := hv v (hr v List.mem_cons_self)
      refine ⟨backV_ext g.ex b, kn, g.ex, g.nt, hm _ _ _ _ _ _ (fun u k' hu n' H' g' => ?_) (fun _ _ _ z => z.elim) h⟩
      obtain ⟨rfl, rfl⟩ := hu
      have g2 : Good c k' n H' := g.back g'
      exact ⟨false, rfl, g2.ex _ _ hl, ⟨dx, fs, g2.ex _ _ ha⟩, (fun z => nomatch z), fun _ => ih (fun w hw => hr w (List.mem_cons_of_mem _ hw)) H' g2⟩
  exact ⟨a, dx, fs, l, vs, rfl, rfl, g.ex _ _ ha, g.ex _ _ hl, walk vs (fun _ z => z) H g⟩
end AW

/-! An own operator whose right operand is of another own class; built-in == own; repr of any data; properties. -/
namespace OX
open PySem PySem.W PySem.Calls PyProof.Rows Builtin
section
variable {prog : Program} {w : World} {A : Around} {E : Value → Shared → Prop} {s : Shared} {K : Frag} {x C D f : Addr} {ox : Obj} {od : Option Obj} {b : Value}
theorem noNumber {M : Model} {h : Heap} {nm : String} {cd : ClassData} (X : K.In h) (hc : clsIn K D = some cd) (hm : cd.mro = [.ref D, .type "object"]) (h1 : findIn K (.ref D) (PySem.dunder nm) = some none) (h2 : findIn K (.ref D) (dunderR nm) = some none)
    (o1 : typeLookup (.type "object") (PySem.dunder nm) = pure none) (o2 : typeLookup (.type "object") (dunderR nm) = pure none) : Looks M h (fillsNumberSlot (.ref D) nm) false := by
  intro A Q E s k q
  unfold fillsNumberSlot
  dsimp only
  refine wpAny_bind ((looks_clsIn X hc).andThen (f := fun cd => pure cd.mro) .now A _ E s k ?_)
  rw [hm, List.anyM_cons]
  refine wpAny_bind ?_
  dsimp only
  rw [List.anyM_cons]
  refine wpAny_bind (wpAny_bind (looks_findIn X h1 A _ E s k ?_))
  dsimp only
  refine wpAny_pure ?_
  simp only [Bool.false_eq_true, if_false]
  rw [List.anyM_cons]
  refine wpAny_bind (wpAny_bind (looks_findIn X h2 A _ E s k ?_))
  dsimp only
  refine wpAny_pure ?_
  simp only [Bool.false_eq_true, if_false, List.anyM_nil]
  refine wpAny_pure ?_
  simp only [Bool.false_eq_true, if_false]
  rw [List.anyM_cons, o1, o2]
  refine wpAny_bind (wpAny_bind (wpAny_pure (wpAny_bind (wpAny_pure ?_))))
  refine wpAny_pure ?_
  simp only [Option.isSome_none, Bool.false_and, Bool.or_self, Bool.false_eq_true, if_false, List.anyM_nil]
  exact wpAny_pure q
theorem binop1_D {nm : String} {Q : Value → Shared → Prop} (X : K.In s.heap) (I : InstAt s.heap x ox C od) (hb : Looks (model prog w) s.heap (typeOf b) (.ref D)) (hc : selfFirst K C = true)
    (hs : findIn K (.ref C) (PySem.dunder nm) = some (some (.ref f))) (hf : isFn K (.ref f) = true) (fill : Looks (model prog w) s.heap (fillsNumberSlot (.ref D) nm) false)
    (h : wpAny (model prog w) A (call (.ref f) [.ref x, b]) (PySem.W.CmpBack Q) E s) : wpAny (model prog w) A (binaryOp1 nm (.ref x) b) (fun r s' => ∃ v, r = some v ∧ Q v s') E s := by
  obtain ⟨cd, hcd, hm⟩ := any_some hc
  obtain ⟨rest, hm⟩ : ∃ rest, cd.mro = .ref C :: rest := by
    cases q : cd.mro with
    | nil => rw [q] at hm; cases hm
    | cons a r => rw [q] at hm; exact ⟨r, by rw [List.head?_cons] at hm; cases (beq_iff_eq.mp hm); rfl⟩
  have last : ∀ {α : Type} (k : Option Value → Sem α) (P : α → Shared → Prop), (∀ v s', PySem.W.CmpBack Q v s' → wpAny (model prog w) A (k (some v)) P E s') → wpAny (model prog w) A (tryMethod (.ref x) (PySem.dunder nm) b >>= k) P E s := fun k P hk => by
    refine wpAny_bind ?_
    unfold tryMethod
    refine wpAny_bind (special_fn X I hs (beq_iff_eq.mp hf) (wpAny_mono h (fun v s' hv => ?_) fun _ _ e => e))
    cases v <;> first | exact hv.elim | exact wpAny_pure (hk _ _ hv)
  unfold binaryOp1
  refine wpAny_bind (I.type.here (wpAny_bind (hb.here (wpAny_bind ((fills_K X hcd hm hs).here ?_)))))
  cases q : (Value.ref C == Value.ref D) with
  | true =>
    simp only [if_true]
    refine wpAny_bind (wpAny_pure ?_)
    simp only [Bool.and_false, Bool.false_eq_true, if_false, Bool.false_and]
    refine wpAny_bind (wpAny_pure ?_)
    simp only [Bool.false_eq_true, if_false]
    refine last _ _ fun v s' hv => ?_
    cases v <;> first | exact hv.elim | exact wpAny_pure ⟨_, rfl, hv⟩
  | false =>
    simp only [Bool.false_eq_true, if_false]
    refine wpAny_bind (fill.here ?_)
    simp only [Bool.and_false, Bool.false_eq_true, if_false, Bool.false_and]
    refine wpAny_bind (wpAny_pure ?_)
    simp only [Bool.false_eq_true, if_false, if_true]
    refine last _ _ fun v s' hv => ?_
    cases v <;> first | exact hv.elim | exact wpAny_pure ⟨_, rfl, hv⟩
end
end OX
namespace L2
open PySem PySem.Spec PyProof.Rows PySem.SeqAt
/-- the class at D has nothing to say in an operator -/
structure NoNum (K : PySem.W.Frag) (op : Operator) (D : Addr) : Prop where
  cd : ∃ cd, PySem.W.clsIn K D = some cd ∧ cd.mro = [.ref D, .type "object"]
  h1 : PySem.W.findIn K (.ref D) (PySem.dunder op.info.2) = some none
  h2 : PySem.W.findIn K (.ref D) (dunderR op.info.2) = some none
  o1 : typeLookup (.type "object") (PySem.dunder op.info.2) = pure none
  o2 : typeLookup (.type "object") (dunderR op.info.2) = pure none
def rOwnD (K : PySem.W.Frag) (op : Operator) (C D : Addr) (sp : Sp) (E : XK) : R2 := fun x y H Q => ∃ a dx fs b dy gs, x = .ref a ∧ y = .ref b ∧ H a = some (.ins C dx fs) ∧ H b = some (.ins D dy gs) ∧ sp [.ref a, .ref b] H Q E
section
variable {X : Cx} {CX : CXT} {k : Nat} {f C D : Addr} {fd : FuncData} {ps : List Str} {sp : Sp} {E : XK}
theorem op_ownD {op : Operator} (M : OpM X.K op C f) (N : NoNum X.K op D) (O : OwnC X.K D) (F : FnOk X.prog X.w X.K X.mg X.base CX k f fd ps sp) (hr : Room k X.A) (hb : Binds X.K fd ps []) (hx : Passes CX X E) : OpR X (binaryOp op) (rOwnD X.K op C D sp E) := by
  intro pins s σ H x y v u Q I rx ry h
  obtain ⟨a, dx, fs, b, dy, gs, rfl, rfl, ha, hb', hq⟩ := h
  cases rx
  have ry' := ry
  cases ry'
  obtain ⟨mA, J, _⟩ := ins_get I.hok ha
  obtain ⟨od, J, _⟩ := J.look
  have hbt := typeOf_of I ry (O.ty hb')
  obtain ⟨cd, c1, c2⟩ := N.cd
  have hc : wpAny (model X.prog X.w) X.A (call (.ref f) [.ref a, .ref b]) (PySem.W.CmpBack (EP X pins σ Q)) X.xe s :=
    wpAny_mono (callA (vs := [.ref a, .ref b]) F hr rfl hb hx I (.cons rfl (.cons ry .nil)) hq) (fun z s' hz => by
      obtain ⟨v', H', I', rv, q⟩ := id hz
      exact relV_ni rv hz) fun _ _ z => z
  exact OX.binop_of (OX.binop1_D I.kIn J hbt M.self M.hs M.hf (OX.noNumber I.kIn c1 c2 N.h1 N.h2 N.o1 N.o2) hc)
/-- x == o or o == x, o of an own class with an own ==, x of a built-in type -/
def rEqU (K : PySem.W.Frag) (C : Addr) (sp : Sp) : R2 := fun x y H Q => rEqO K C sp false x y H Q ∨ ∃ a dx fs, y = .ref a ∧ H a = some (.ins C dx fs) ∧ BackV K H C x ∧ sp [.ref a, x] H (fun v H' => ∃ b, v = .bl b ∧ Q (.bl b) H') (fun _ _ _ => False)
theorem op_eqU (M : EqM X.K C f) (F : FnOk X.prog X.w X.K X.mg X.base CX k f fd ps sp) (hr : Room (k + 1) X.A) (hb : Binds X.K fd ps []) (hx : Passes CX X (fun _ _ _ => False)) : OpR X (compareOp .Eq) (rEqU X.K C sp) := by
  intro pins s σ H x y v u Q I rx ry h
  rcases h with h | ⟨a, dx, fs, rfl, ha, bv, hq⟩
  · exact op_eqO M F hr hb hx pins s σ H x y v u Q I rx ry h
  cases (show u = Value.ref a from ry)
  obtain ⟨mA, J, _⟩ := ins_get I.hok ha
  obtain ⟨od, J, _⟩ := J.look
  have KI := I.kIn
  have hu : X.A.units < cLine := hr.units0
  have isI : ∀ {T : String}, PySem.W.subIn X.K (.ref C) (.type T) = some false → ∀ (M : Model) (A : Around) (Q : Bool → Shared → Prop) (E : Value → Shared → Prop), Q false s → wpAny M A (isInstance (.ref a) (.type T)) Q E s := fun {T} h M' A' Q' E' q => (J.type.andThen (f := fun t => isSubtype t (.type T)) (PySem.W.looks_subIn KI h)).here q
  have h : wpAny (model X.prog X.w) X.A (call (.ref f) [.ref a, v]) (PySem.W.CmpBack (EP X pins σ Q)) X.xe s :=
    wpAny_mono (callA (vs := [.ref a, x]) F (hr.mono (Nat.le_succ _)) rfl hb hx I (.cons rfl (.cons rx .nil)) hq) (fun z s' hz => by
      obtain ⟨v', H', I', rv, b, e, q⟩ := hz
      subst e
      cases (show z = Value.bool b from rv)
      exact ⟨.bl b, H', I', rfl, q⟩) fun _ _ z => z
  show wpAny (model X.prog X.w) X.A (richCompare .Eq v (.ref a)) (EP X pins σ Q) X.xe s
  cases bv with
  | non hs =>
    cases (show v = Value.none from rx)
    exact eq_back hu KI J (T := "NoneType") rfl PySem.F.slot_NoneType_eq M.hs M.hf hs (fun P E' p => call_gives PySem.F.slot_NoneType_eq rfl PySem.F.entry_NoneType_eq (PySem.F.args_NoneType_eq_2 _ _) (NoneType___eq___none_ref_0 a) p) h
  | bl y hs =>
    cases (show v = Value.bool y from rx)
    exact eq_back hu KI J (T := "bool") rfl PySem.F.slot_bool_eq M.hs M.hf hs (fun P E' p => call_meets PySem.F.slot_bool_eq rfl PySem.F.entry_int_eq (PySem.F.args_int_eq_2 _ _) (bool_eq_inst y a C dx) ⟨J.1, p⟩) h
  | int y hs =>
    obtain ⟨t, rfl⟩ := (show ∃ t, v = Value.int y t from rx)
    exact eq_back hu KI J (T := "int") (typeIs_int _ _ _) PySem.F.slot_int_eq M.hs M.hf hs (fun P E' p => call_meets PySem.F.slot_int_eq (typeIs_int _ _ _) PySem.F.entry_int_eq (PySem.F.args_int_eq_2 _ _) (int_eq_inst y t a C dx) ⟨J.1, p⟩) h
  | str y hs =>
    obtain ⟨t, rfl⟩ := (show ∃ t, v = Value.str y t from rx)
    exact eq_back hu KI J (T := "str") (typeIs_str _ _ _) PySem.F.slot_str_eq M.hs M.hf hs (fun P E' p => call_meets PySem.F.slot_str_eq (typeIs_str _ _ _) PySem.F.entry_str_eq (PySem.F.args_str_eq_2 _ _) (str_eq_inst y t a C dx) ⟨J.1, p⟩) h
  | @lst l xs e hs =>
    cases (show v = Value.ref l from rx)
    obtain ⟨_, its, n, _, _, e1⟩ := I.lstM e
    exact eq_back hu KI J (T := "list") ⟨_, e1, rfl⟩ PySem.F.slot_list_eq M.hs M.hf hs (fun P E' p => call_meets PySem.F.slot_list_eq ⟨_, e1, rfl⟩ PySem.F.entry_list_eq (PySem.F.args_list_eq_2 _ _) (lst_eq_inst l a) ⟨isI hs, p⟩) h
  | @tup l xs e hs =>
    cases (show v = Value.ref l from rx)
    obtain ⟨its, _, pl, _⟩ := I.tuple (.inl (.inl e))
    obtain ⟨o, ho, hc, _⟩ := pl
    exact eq_back hu KI J (T := "tuple") ⟨o, ho, hc⟩ PySem.F.slot_tuple_eq M.hs M.hf hs (fun P E' p => call_meets PySem.F.slot_tuple_eq ⟨o, ho, hc⟩ PySem.F.entry_tuple_eq (PySem.F.args_tuple_eq_2 _ _) (tup_eq_inst l a) ⟨isI hs, p⟩) h
/-- repr of a bool -/
def rReprB : List V → Hp → VK → Prop := fun xs H Q => ∃ b : Bool, xs = [.bl b] ∧ Q (.str (if b then "True" else "False")) H
theorem c_reprB : CallR X (.builtin "repr") rReprB := by
  intro pins s σ H xs us Q I r h
  obtain ⟨b, rfl, q⟩ := h
  obtain ⟨u, rfl, rx⟩ := vals1 r
  cases (show u = Value.bool b from rx)
  exact PySem.P.repr_of_bool ⟨.str (if b then "True" else "False"), H, I.tok _, ⟨_, rfl⟩, q⟩
def rNotN : R2 := fun x y H Q => y = V.non ∧ Q (V.bl (!decide (x = V.non))) H
theorem c_notN : OpR X (compareOp .IsNot) rNotN := op_notN
def rMax2 : List V → Hp → VK → Prop := fun xs H Q => ∃ i j : Int, xs = [.int i, .int j] ∧ Q (.int (if j > i then j else i)) H
theorem c_max2 (hc : X.calm = true) : CallR X (.builtin "max") rMax2 := call_max2 hc
def rMin2 : List V → Hp → VK → Prop := fun xs H Q => ∃ i j : Int, xs = [.int i, .int j] ∧ Q (.int (if j < i then j else i)) H
theorem c_min2 (hc : X.calm = true) : CallR X (.builtin "min") rMin2 := call_min2 hc
end
end L2
namespace AW
open PySem PySem.Spec PyProof.Rows L2
section
variable {c : Cw} {kn : Hp} {n : Nat} {σ : L2.St} {Q : V → Hp → Nat → Prop} {K : PySem.W.Frag} {E : XK} {EA : EAK} {B : List V → Hp → AK → AXK → Prop} {C D : Addr}
theorem r_ownD {op : Operator} {a b dx dy : Addr} {fs gs : List (Str × V)} (hm : MonoX B) (hE : ErrOk c EA E) (ha : kn a = some (.ins C dx fs)) (hb : kn b = some (.ins D dy gs))
    (h : B [.ref a, .ref b] kn (fun v k => Q v k n) (fun cls d k => EA cls d k n)) : W c (rOwnD K op C D (liftX B) E (.ref a) (.ref b)) kn n Q :=
  fun H g Q' q => ⟨a, dx, fs, b, dy, gs, rfl, rfl, g.ex _ _ ha, g.ex _ _ hb, sp_call hm hE h H g Q' q⟩
theorem r_eqUo {x y : V} (h : W c (rEqO K C (liftX B) false x y) kn n Q) : W c (rEqU K C (liftX B) x y) kn n Q := fun H g Q' q => .inl (h H g Q' q)
theorem r_eqUb {a dx : Addr} {fs : List (Str × V)} {x : V} (hm : MonoX B) (ha : kn a = some (.ins C dx fs)) (bv : BackV K kn C x)
    (h : B [.ref a, x] kn (fun v k => ∃ b, v = .bl b ∧ Q (.bl b) k n) (fun _ _ _ => False)) : W c (rEqU K C (liftX B) x (.ref a)) kn n Q :=
  fun H g Q' q => .inr ⟨a, dx, fs, rfl, g.ex _ _ ha, backV_ext g.ex bv, sp_call (EA := fun _ _ _ _ => False) (Q := fun v k n => ∃ b, v = .bl b ∧ Q (.bl b) k n) hm err_no h H g _ fun v kn1 n1 H1 ⟨b, e, hq⟩ g1 => ⟨b, e, q _ _ _ _ hq g1⟩⟩
theorem r_reprB {b : Bool} (q : Q (.str (if b then "True" else "False")) kn n) : W c (rReprB [.bl b]) kn n Q := fun H g _ k => ⟨b, rfl, k _ kn n H q g⟩
theorem r_notN {x : V} (q : Q (.bl (!decide (x = V.non))) kn n) : W c (rNotN x .non) kn n Q := fun H g _ k => ⟨rfl, k _ kn n H q g⟩
theorem r_max2 {i j : Int} (q : Q (.int (if j > i then j else i)) kn n) : W c (rMax2 [.int i, .int j]) kn n Q := fun H g _ k => ⟨i, j, rfl, k _ kn n H q g⟩
theorem r_min2 {i j : Int} (q : Q (.int (if j < i then j else i)) kn n) : W c (rMin2 [.int i, .int j]) kn n Q := fun H g _ k => ⟨i, j, rfl, k _ kn n H q g⟩
theorem w_prop {ta : TE} (hm : MonoX B) (h : W c (ta σ) kn n fun x kn1 n1 => ∃ a dx fs, x = .ref a ∧ kn1 a = some (.ins C dx fs) ∧ B [.ref a] kn1 (fun v k => Q v k n1) (fun _ _ _ => False)) : W c (tProp C (liftX B) [] E ta σ) kn n Q :=
  fun H g Q' q => h H g _ fun x kn1 n1 H1 ⟨a, dx, fs, e, ha, hb⟩ g1 => ⟨a, dx, fs, e, g1.ex _ _ ha, sp_call (EA := fun _ _ _ _ => False) hm err_no hb H1 g1 Q' q⟩
end
end AW

/-! iter(t) of a tuple; list(o), o of an own class whose __iter__ gives that, with a __len__ of its own. -/
namespace L2
open PySem PySem.Spec PyProof.Rows
def TitO (t it : Addr) : HO := .ext fun h => h.IsTupleIter it t 0
theorem titO_ok {P : Program} {w : World} {H : Hp} {h : Heap} {t it : Addr} (e : h.IsTupleIter it t 0) : ObjOk P w H h it (TitO t it) := ⟨e, (let ⟨o, ho, _⟩ := e; ⟨o, ho⟩), fun h1 h2 q k => let ⟨o, ho, r⟩ := q; ⟨o, k _ ho, r⟩⟩
def rIterT (K : PySem.W.Frag) : List V → Hp → VK → Prop := fun xs H Q => ∃ (t : Addr) (zs : List V), xs = [.ref t] ∧ SqT K H t zs ∧ ∀ it, H it = none → Q (.ref it) (upd H it (TitO t it))
section
variable {X : Cx}
theorem c_iterT : CallR X (.builtin "iter") (rIterT X.K) := by
  intro pins s σ H xs us Q I r h
  obtain ⟨t, zs, rfl, hq, q⟩ := h
  obtain ⟨u, rfl, rx⟩ := vals1 r
  cases (show u = Value.ref t from rx)
  obtain ⟨its, rv, pl, hz⟩ := I.tuple hq
  refine Calls.call_function_entry (by decide +kernel) (by decide +kernel) PySem.W.kdk_entry_iter (PySem.W.kdk_args_iter _) ?_
  unfold Builtin.«iter»
  refine wpAny_bind (m := someArgs "iter" 1 2 _) (wpAny_of_eq (a := [Value.ref t]) (by first | rfl | kernel_rfl!) ?_)
  show wpAny _ _ (pyIter (.ref t) >>= _) _ _ _
  refine wpAny_bind (wpAny_pyIter_tuple pl ?_)
  refine wpAny_pure ⟨_, rfl, ?_⟩
  exact ⟨.ref s.heap.objs.size, _, I.laid (t' := s.toks) (fun b u e => Heap.get?_push_of_some _ e) (Nat.le_refl _) (titO_ok ⟨_, Heap.get?_push_size _ rfl, rfl, rfl⟩), rfl, q _ (I.hok.fresh (Nat.le_refl _))⟩
/-- the promise of such an __iter__ -/
def spIterT (C : Addr) (f : Str) : Sp := fun vs H Q _ => ∃ a dx fs t zs, vs = [.ref a] ∧ H a = some (.ins C dx fs) ∧ fs.lookup f = some (.ref t) ∧ H t = some (.tup zs) ∧ ∀ it, H it = none → Q (.ref it) (upd H it (TitO t it))
variable {kI kL n : Nat} {C fI fL S a t : Addr} {fdI fdL : FuncData} {psI psL : List Str} {spL : Sp} {f : Str} {A1 : Around} {pins : List (Addr × Obj)} {σ : St} {HA : Hp} {sA : Shared} {dx : Addr} {fs : List (Str × V)} {zs : List V} {Rs : Result → Shared → Prop}
/-- what the own __len__ answers, wherever more is known -/
def TellsLen (spL : Sp) (a : Addr) (H : Hp) (n : Nat) : Prop := ∀ H', (∀ b o, H b = some o → H' b = some o) → spL [.ref a] H' (fun v H2 => v = .int (n : Int) ∧ ∀ b o, H' b = some o → H2 b = some o) (fun _ _ _ => False)
theorem lot_hint {Q : Bool → Shared → Prop} {E : Value → Shared → Prop} {H : Hp} {s : Shared} (ML : SpM X.K C fL "__len__") (FL : FnOk X.prog X.w X.K X.mg X.base CX0 kL fL fdL psL spL) (bL : Binds X.K fdL psL []) (hr : Room (kL + 1) A1) (hfr : A1.frames = X.A.frames)
    (I : Inv X pins σ H s) (ha : H a = some (.ins C dx fs)) (hz : n ≤ 1000) (hL : TellsLen spL a H n)
    (q : ∀ k s' H', Inv X pins σ H' s' → Un (frs X.stack) [] H H' s.heap s'.heap → s'.os = s.os → (∀ b o, H b = some o → H' b = some o) → Q k s') : wpAny (model X.prog X.w) A1 (Builtin.List.listLengthHint (.ref a)) Q E s := by
  obtain ⟨mA, J, _⟩ := ins_get I.hok ha
  obtain ⟨od, J, _⟩ := J.look
  obtain ⟨m0, hF⟩ := I.fr
  unfold Builtin.List.listLengthHint
  refine wpAny_bind (wpAny_bind (J.type.here ((PySem.W.looks_findIn I.kIn ML.hs).here ?_)))
  refine PySem.W.KFB.if_not rfl ?_
  dsimp only
  refine wpAny_ite_split (fun _ => ?_) (fun z => absurd rfl z)
  refine wpAny_bind (wpAny_rule ?_)
  have e0 : Env0 X.prog X.w X.K X.mg X.base A1.in1 X.stack s H := by
    have e := I.env0
    exact ⟨hfr.trans e.frames, e.mod, e.bs, e.bsz, e.funs, e.frf, e.hok, e.bare⟩
  have r2 : Vals [V.ref a] [Value.ref a] := .cons rfl .nil
  have hsp := hL H fun _ _ z => z
  have hlen := FL.len _ _ _ _ hsp
  refine wpAny_bind (wpAny_attempt (PySem.W.len_K hF I.ok.mod.kin J ML.hs ML.hf (wpAny_call (codeAny_mono (FL.run A1.in1 X.stack s H ⟨[.ref a], []⟩ [.ref a] [.ref a] _ _ hr.in1 e0 (by
    have := bL s [.ref a] I.kIn (by simpa using hlen)
    simpa using this) r2 hsp) fun r s1 hq1 => ?_))))
  cases r with
  | error e => exact hq1.elim
  | ok fl =>
    cases fl with
    | next => exact False.elim hq1
    | brk => exact False.elim hq1
    | cont => exact False.elim hq1
    | ret u =>
      obtain ⟨v, H1, os1, bare1, un1, hok1, rv, ev, ex1⟩ := (show CE _ _ _ _ _ _ _ _ from hq1)
      subst ev
      obtain ⟨tk, rfl⟩ := (show ∃ tk, u = Value.int (n : Int) tk from rv)
      obtain ⟨h1, g1, d1, t1, o1⟩ := s1
      cases (show o1 = s.os from os1)
      have I1 : Inv X pins σ H1 _ := I.call (h' := h1) (g' := g1) (d' := d1) (t' := t1 + 1) (ch := []) un1 hok1 bare1 (fun b z => absurd z (by simp))
      refine ⟨⟨Int.natCast_nonneg _, by omega⟩, ?_⟩
      refine wpAny_bind (m := asInt? (.int (n : Int) _)) (wpAny_pure ?_)
      dsimp only
      have small : Builtin.List.listTooLong ((n : Int)).toNat = false := by
        rw [Int.toNat_natCast]
        unfold Builtin.List.listTooLong
        exact decide_eq_false (by rw [sizeLine_eq]; omega)
      refine PySem.W.KFB.if_not small ?_
      exact wpAny_pure (q _ _ H1 I1 un1 rfl ex1)
theorem items_same {its : List Value} {acc : Array Value} (h : ItemsOf (fun i v => its.toArray[i]? = some v) acc its.toArray.size) : acc.toList = its := by
  refine List.ext_getElem? fun j => ?_
  have h1 : acc.size = its.length := h.1.trans List.size_toArray
  cases e : acc[j]? with
  | some u =>
    have q : its.toArray[j]? = some u := h.2 j u e
    rw [List.getElem?_toArray] at q
    rw [Array.getElem?_toList, e, q]
  | none =>
    have l : acc.size ≤ j := Array.getElem?_eq_none_iff.mp e
    rw [Array.getElem?_toList, e, List.getElem?_eq_none (by omega)]
theorem lot_extend (MI : SpM X.K C fI "__iter__") (FI : FnOk X.prog X.w X.K X.mg X.base CX0 kI fI fdI psI (spIterT C f)) (bI : Binds X.K fdI psI []) (ML : SpM X.K C fL "__len__") (FL : FnOk X.prog X.w X.K X.mg X.base CX0 kL fL fdL psL spL) (bL : Binds X.K fdL psL [])
    (rI : Room kI A1.in1) (rL : Room (kL + 1) A1.in1) (hfr : A1.in1.frames = X.A.frames) (IA : Inv X pins σ HA sA) (ha : HA a = some (.ins C dx fs)) (hl : fs.lookup f = some (.ref t)) (ht : HA t = some (.tup zs)) (hz : zs.length ≤ 1000)
    (hL : TellsLen spL a HA zs.length) (hS : HA S = some (.lst [])) (hdone : ∀ s5 H5, Inv X pins σ H5 s5 → (∀ b o, b ≠ S → HA b = some o → H5 b = some o) → H5 S = some (.lst zs) → Rs (.ok (.ret .none)) s5) :
    wpAny (model X.prog X.w) A1.in1 (Builtin.List.listExtendWith (.ref S) (.ref a) .none)
      (fun fin s' => match fin with | .done g => Rs (.ok g) s' | .again cd => cd.quiet = true ∧ codeAny (model X.prog X.w) A1 cd Rs s') (fun e s' => Rs (.error e) s') sA := by
  have neq : S ≠ a := fun z => by rw [z, ha] at hS; cases hS
  obtain ⟨mA, J, _⟩ := ins_get IA.hok ha
  obtain ⟨od, J, _⟩ := J.look
  obtain ⟨m0, hF⟩ := IA.fr
  unfold Builtin.List.listExtendWith
  refine wpAny_bind (J.type.here ?_)
  have z1 : Builtin.List.listSameRef (.ref S) (.ref a) = false := by simp [Builtin.List.listSameRef, neq]
  have z2 : ((Value.ref C) == (Value.type "list")) = false := rfl
  have z3 : ((Value.ref C) == (Value.type "tuple")) = false := rfl
  simp only [z1, z2, z3, Bool.or_false, Bool.false_eq_true, if_false]
  refine wpAny_bind (PySem.W.owit_iter hF IA.ok.mod.kin J MI.hs MI.hf ?_)
  have e0 : Env0 X.prog X.w X.K X.mg X.base A1.in1 X.stack sA HA := by
    have e := IA.env0
    exact ⟨hfr.trans e.frames, e.mod, e.bs, e.bsz, e.funs, e.frf, e.hok, e.bare⟩
  have rv0 : Vals [V.ref a] [Value.ref a] := .cons rfl .nil
  have hsp : spIterT C f [.ref a] HA (fun v H' => ∃ it, HA it = none ∧ v = .ref it ∧ H' = upd HA it (TitO t it)) (fun _ _ _ => False) := ⟨a, dx, fs, t, zs, rfl, ha, hl, ht, fun it hi => ⟨it, hi, rfl, rfl⟩⟩
  have hlen := FI.len _ _ _ _ hsp
  refine wpAny_call (codeAny_mono (FI.run A1.in1 X.stack sA HA ⟨[.ref a], []⟩ [.ref a] [.ref a] _ _ rI e0 (by
    have z := bI sA [.ref a] IA.kIn (by simpa using hlen)
    simpa using z) rv0 hsp) fun r s1 hr1 => ?_)
  cases r with
  | error e => exact hr1.elim
  | ok fl =>
    cases fl with
    | next => exact False.elim hr1
    | brk => exact False.elim hr1
    | cont => exact False.elim hr1
    | ret u =>
      obtain ⟨v, H1, os1, bare1, un1, hok1, rv, it, hit, ev, eH⟩ := (show CE _ _ _ _ _ _ _ _ from hr1)
      subst ev
      subst eH
      cases (show u = Value.ref it from rv)
      obtain ⟨h1, g1, d1, t1, o1⟩ := s1
      cases (show o1 = sA.os from os1)
      have I1 : Inv X pins σ (upd HA it (TitO t it)) _ := IA.call (h' := h1) (g' := g1) (d' := d1) (t' := t1) (ch := []) un1 hok1 bare1 (fun b z => absurd z (by simp))
      have ex1 : ∀ b o, HA b = some o → upd HA it (TitO t it) b = some o := fun b o e => by rw [upd_ne (ne_of_none e hit)]; exact e
      have ti1 : h1.IsTupleIter it t 0 := (hok1 it _ upd_same).1
      show PySem.W.OwitIt _ _ _ _ _ _
      unfold PySem.W.OwitIt
      refine wpAny_specialOf (name := Str.ofString "__next__") (s := ⟨h1, g1, d1, t1, sA.os⟩) ti1.typeIs PySem.F.slot_tuple_iterator_next.lookup ?_
      dsimp only
      refine wpAny_bind (wpAny_holding (lot_hint ML FL bL rL hfr I1 (ex1 _ _ ha) hz (fun H' e => hL H' fun b o z => e b o (ex1 b o z)) fun k s2 H2 I2 un2 os2 ex2 => ?_))
      have nSi : S ≠ it := ne_of_none hS hit
      have hS2 : H2 S = some (.lst []) := ex2 _ _ (ex1 _ _ hS)
      have hT2 : H2 it = some (TitO t it) := ex2 _ _ upd_same
      have ht2 : H2 t = some (.tup zs) := ex2 _ _ (ex1 _ _ ht)
      obtain ⟨its, rvs, pl, hzz⟩ := I2.tuple (.inl (.inl ht2))
      have nti : t ≠ it := ne_of_none ht hit
      have nSt : S ≠ t := fun z => by rw [z, ht] at hS; cases hS
      have hzl := rvs.length
      have un12 : Un (frs X.stack) [] HA H2 sA.heap s2.heap := un1.trans un2
      have nit : sA.heap.get? it = none := by
        cases z : sA.heap.get? it with
        | none => rfl
        | some o =>
          have := un1.free it o z hit (by simp)
          rw [upd_same] at this
          cases this
      have loop : ∀ (s4 : Shared) (c4 : Nat), (∀ b o, b ≠ S → s2.heap.get? b = some o → s4.heap.get? b = some o) → s4.heap.get? S = some { cls := .type "list", dict := none, data := .seq #[] c4, slots := #[] } → s4.gens = s2.gens → s4.os = s2.os →
          codeAny (model X.prog X.w) A1 (.builtin "list.extend.loop" ⟨[.ref S, .ref it, .none], []⟩) Rs s4 := by
        intro s4 c4 k4 e4 q4 o4
        have hh : A1.in1.handled = none := rI.hd
        have W := (Walks.tuple (prog := X.prog) (w := X.w) (A := A1.in1) hh it t nti its.toArray).toS
        have st0 : s4.heap.IsTupleIter it t 0 ∧ s4.heap.IsTuple t its.toArray := by
          refine ⟨?_, ?_⟩
          · obtain ⟨o, ho, r⟩ := (I2.hok it _ hT2).1
            exact ⟨o, k4 _ _ (Ne.symm nSi) ho, r⟩
          · obtain ⟨o, ho, r⟩ := pl
            exact ⟨o, k4 _ _ (Ne.symm nSt) ho, r⟩
        refine codeAny_extend_loopS W (by rw [List.size_toArray, sizeLine_eq]; omega) S (by simp [nSi, nSt]) .none _ 0 s4 #[] c4 rfl (Nat.zero_le _) st0 e4 (ItemsOf.nil _) fun s5 acc c5 mv e5 hacc => ?_
        have eacc : acc.toList = its := items_same hacc
        have k5 : ∀ b o, b ≠ S → b ≠ it → s2.heap.get? b = some o → s5.heap.get? b = some o := fun b o n1 n2 e => mv.heap b o (by simp [n1, n2]) (k4 b o n1 e)
        have un5 : Un (frs X.stack) [] HA (upd (del H2 it) S (.lst zs)) sA.heap s5.heap := by
          have nS : ∀ b, HA b = none → b ≠ S := fun b n z => by rw [z, hS] at n; cases n
          have nI : ∀ b o, sA.heap.get? b = some o → b ≠ it := fun b o e z => by rw [z, nit] at e; cases e
          have old : ∀ b y, HA b = some y → (∀ xs, y ≠ .lst xs) → upd (del H2 it) S (.lst zs) b = some y := fun b y e n => by
            rw [upd_ne (fun z => by rw [z, hS] at e; cases e; exact n _ rfl), del_ne (ne_of_none e hit)]
            exact ex2 _ _ (ex1 _ _ e)
          refine ⟨fun b o e n hb hx => k5 b o (nS b n) (nI b o e) (un12.keep b o e n hb hx), fun b o e n hb hx => ?_, fun b o e n hx => ?_, fun b o e hx => ?_, fun b xs e => old b _ e (fun _ z => nomatch z), fun b o y e => old b _ e (fun _ z => nomatch z), fun b ps e => ⟨#[], ?_⟩⟩
          · obtain ⟨sl, e'⟩ := un12.slot b o e n hb hx
            exact ⟨sl, k5 b _ (nS b n) (nI b o e) e'⟩
          · rw [upd_ne (nS b n), del_ne (nI b o e)]; exact un12.free b o e n hx
          · by_cases z : b = S
            · rw [z]; exact ⟨_, e5⟩
            · obtain ⟨o', e'⟩ := un12.there b o e hx
              exact ⟨o', k5 b o' z (nI b o e) e'⟩
          · rw [old b _ e (fun _ z => nomatch z)]; simp
        have hok5 : HOk X.prog X.w (upd (del H2 it) S (.lst zs)) s5.heap := fun b y e => by
          by_cases z : b = S
          · rw [z, upd_same] at e
            cases e
            rw [z]
            refine ⟨by rw [sizeLine_eq]; omega, its, c5, rvs, ?_⟩
            rw [← eacc, Array.toArray_toList]
            exact e5
          · rw [upd_ne z] at e
            have n2 : b ≠ it := fun w => by rw [w, del_same] at e; cases e
            rw [del_ne n2] at e
            have same : ∀ c y, H2 c = some y → (∀ xs, y ≠ .lst xs) → (∀ g, y ≠ .ext g) → upd (del H2 it) S (.lst zs) c = some y := fun c y e n m => by
              rw [upd_ne (fun z => by rw [z, hS2] at e; cases e; exact n _ rfl), del_ne (fun z => by rw [z, hT2] at e; cases e; exact m _ rfl)]
              exact e
            refine (I2.hok b y e).stay (fun c x hc q => k5 c x ?_ ?_ q) (fun c q => same c _ q (fun _ w => nomatch w) (fun _ w => nomatch w)) fun c xs q => same c _ q (fun _ w => nomatch w) (fun _ w => nomatch w)
            · rcases hc with hc | hc
              · rw [hc]; exact z
              · exact fun w => by rw [w, hS2] at hc; cases hc
            · rcases hc with hc | hc
              · rw [hc]; exact n2
              · exact fun w => by rw [w, hT2] at hc; cases hc
        obtain ⟨h5, g5, d5, t5, o5⟩ := s5
        have bare5 : AllBare g5 := by
          have : g5 = s4.gens := mv.gens
          rw [this, q4]
          exact I2.bare
        cases (show o5 = sA.os from (mv.os.trans o4).trans os2)
        refine hdone _ _ (IA.call (h' := h5) (g' := g5) (d' := d5) (t' := t5) (ch := []) un5 hok5 bare5 (fun b z => absurd z (by simp))) (fun b o nb e => ?_) upd_same
        rw [upd_ne nb, del_ne (ne_of_none e hit)]
        exact ex2 _ _ (ex1 _ _ e)
      obtain ⟨z4, its4, k4, r4, hl4, e4⟩ := I2.lstM hS2
      cases r4
      refine wpAny_ite_split (fun _ => ?_) (fun _ => wpAny_pure ⟨plainId_quiet PySem.F.plain_extend_loop _, loop s2 k4 (fun _ _ _ e => e) e4 rfl rfl⟩)
      refine wpAny_bind (wpAny_rule (wpAny_bind ?_))
      show wpAny _ _ (updateSeq S (·.push .none) >>= fun _ => updateSeq S (·.pop)) _ _ _
      refine wpAny_bind (wpAny_updateSeq e4 rfl ?_)
      have q1 := PySem.IsL.update e4 (·.push Value.none)
      refine wpAny_updateSeq q1 rfl ?_ (by show 1 ≤ sizeLine; rw [sizeLine_eq]; decide) (by show 0 ≤ sizeLine + 1; exact Nat.zero_le _)
      have q2 := PySem.IsL.update q1 (·.pop)
      refine wpAny_pure ⟨plainId_quiet PySem.F.plain_extend_loop _, loop _ _ (fun b o nb e => ?_) q2 rfl rfl⟩
      exact (Heap.get?_update_other _ _ (Ne.symm nb)).trans ((Heap.get?_update_other _ _ (Ne.symm nb)).trans e)
/-- list(o) -/
def rListOT (C : Addr) (f : Str) (spL : Sp) : List V → Hp → VK → Prop := fun xs H Q => ∃ a dx fs t zs, xs = [.ref a] ∧ H a = some (.ins C dx fs) ∧ fs.lookup f = some (.ref t) ∧ H t = some (.tup zs) ∧ zs.length ≤ 1000 ∧ TellsLen spL a H zs.length ∧
  ∀ q H', H q = none → (∀ b o, H b = some o → H' b = some o) → H' q = some (.lst zs) → Q (.ref q) H'
theorem c_listOT (MI : SpM X.K C fI "__iter__") (FI : FnOk X.prog X.w X.K X.mg X.base CX0 kI fI fdI psI (spIterT C f)) (bI : Binds X.K fdI psI []) (ML : SpM X.K C fL "__len__") (FL : FnOk X.prog X.w X.K X.mg X.base CX0 kL fL fdL psL spL) (bL : Binds X.K fdL psL [])
    (rI : Room (kI + 2) X.A) (rL : Room (kL + 3) X.A) : CallR X (.type "list") (rListOT C f spL) := by
  intro pins s σ H xs us Q I rv h
  obtain ⟨a, dx, fs, t, zs, rfl, ha, hl, ht, hz, hL, hq⟩ := h
  obtain ⟨u, rfl, ru⟩ := vals1 rv
  cases (show u = Value.ref a from ru)
  refine callType_codes (Q₁ := fun ob z => ob = .ref s.heap.objs.size ∧ z = { s with heap := s.heap.push { cls := .type "list", data := .seq #[] } })
    PySem.F.called_list (PySem.F.typeCall_list_1 _) PySem.F.entry_list_init (code_list_new _ ⟨rfl, rfl⟩) fun ob z hoz => ?_
  obtain ⟨rfl, rfl⟩ := hoz
  have gS : (s.heap.push { cls := .type "list", data := .seq #[] }).get? s.heap.objs.size = some { cls := .type "list", data := .seq #[] } := Heap.get?_push_size _ rfl
  refine ⟨⟨_, gS, rfl⟩, PySem.F.args_list_init_2 _ _, ?_⟩
  have nS : H s.heap.objs.size = none := I.hok.fresh (Nat.le_refl _)
  have J1 : Inv X pins σ (upd H s.heap.objs.size (.lst [])) { s with heap := s.heap.push { cls := .type "list", data := .seq #[] } } := I.lnew (its := []) (t' := s.toks) .nil (Nat.zero_le _)
  show wpAny _ _ (do
    let old ← Builtin.List.listItems (.ref s.heap.objs.size)
    Builtin.List.listUpdate (.ref s.heap.objs.size) (fun _ => #[])
    letGo old.toList.reverse
    Builtin.List.listExtendWith (.ref s.heap.objs.size) (.ref a) .none) _ _ _
  refine wpAny_bind ?_
  unfold Builtin.List.listItems
  refine wpAny_bind (wpAny_seqItems gS rfl (wpAny_pure ?_))
  show wpAny _ _ (updateSeq s.heap.objs.size (fun _ => #[]) >>= fun _ =>
    letGo (#[] : Array Value).toList.reverse >>= fun _ =>
    Builtin.List.listExtendWith (.ref s.heap.objs.size) (.ref a) .none) _ _ _
  refine wpAny_bind (wpAny_updateSeq gS rfl ?_)
  have J2 := J1.lset (f := fun _ => #[]) (its := []) (its' := []) (ys := []) (t' := s.toks) upd_same gS rfl .nil (Nat.zero_le _)
  rw [upd_upd] at J2
  refine wpAny_bind (wpAny_letGo ?_)
  have old : ∀ b o, H b = some o → upd H s.heap.objs.size (.lst []) b = some o := fun b o e => by rw [upd_ne (ne_of_none e nS)]; exact e
  exact lot_extend (A1 := X.A.in1) (Rs := wants (fun r z => r = .none ∧ EP X pins σ Q (.ref s.heap.objs.size) z) X.xe) MI FI bI ML FL bL (Room.in1 (Room.in1 rI)) (Room.in1 (Room.in1 rL)) rfl J2 (old _ _ ha) hl (old _ _ ht) hz
    (fun H' e => hL H' fun b o z => e b o (old b o z)) upd_same
    (fun s5 H5 I5 e5 q5 => ⟨rfl, .ref s.heap.objs.size, H5, I5, rfl, hq _ H5 nS (fun b o z => e5 b o (ne_of_none z nS) (old b o z)) q5⟩)
end
end L2

/-! for x in o, o of an own class whose __iter__ gives iter(t), t a tuple of its: the iterator is young. -/
namespace L2
open PySem PySem.Spec PyProof.Rows
/-- a promise that may tell the heap's size at the entry -/
structure FnN (P : Program) (w : World) (K : PySem.W.Frag) (mg : Str → Option Value) (base : Heap) (CX : CXT) (k : Nat) (f : Addr) (fd : FuncData) (ps : List Str) (sp : Nat → Sp) : Prop where
  len : ∀ n vs H Q E, sp n vs H Q E → vs.length = ps.length
  run : ∀ (A : Around) (outer : List Env) (s : Shared) (H : Hp) (args : Args) (us : List Value) (vs : List V) (Q : VK) (E : XK), Room k A → Env0 P w K mg base A outer s H → BindsTo s fd args (ps.zip us) → Vals vs us → sp s.heap.objs.size vs H Q E →
    codeAny (model P w) A (.call (.ref f) args) (CR CX outer P w H s Q E) s
theorem Fun.okN {P : Program} {w : World} {K : PySem.W.Frag} {mg : Str → Option Value} {base : Heap} {x qual : Str} {st : Stmt} {f : Addr} {fd : FuncData} {N ps : List Str} {k : Nat} {sp : Nat → Sp} (F : Fun K x qual st f fd) (S : FnScope N ps (defScope st)) (len : ∀ n vs H Q E, sp n vs H Q E → vs.length = ps.length)
    (hb : ∀ (cdv : Value) (A : Around) (outer : List Env) (s : Shared) (H : Hp) (vs : List V) (Q : VK) (E : XK), Room k (A.deeper (envOfC qual (defScope st) s.heap.objs.size f cdv)) → sp s.heap.objs.size vs H Q E →
      ∃ t, PSs (cxOf CX0 P w K mg base N qual (defScope st) f cdv A outer s H E).nox (defBody st) t ∧ t { nx := fun _ H' => Q .non H', rt := Q } (start N vs) H) : FnN P w K mg base CX0 (k + 1) f fd ps sp := by
  obtain ⟨oc, od, kV, doc, pm, an, cdv, ct, osl, rfl, lk, hcd⟩ := F.ex
  refine ⟨len, fun A outer s H args us vs Q E hr e0 hbd r hsp => LamX.run_ofS lk hcd S hr e0 hbd r (len _ _ _ _ _ hsp) fun hr' => ?_⟩
  obtain ⟨t, h, q⟩ := hb cdv A outer s H vs Q E hr' hsp
  exact ⟨t, h.nox, q⟩
def rIterTN (K : PySem.W.Frag) (n : Nat) : List V → Hp → VK → Prop := fun xs H Q => ∃ (t : Addr) (zs : List V), xs = [.ref t] ∧ SqT K H t zs ∧ ∀ it, H it = none → n ≤ it → Q (.ref it) (upd H it (TitO t it))
section
variable {X : Cx}
theorem c_iterTN : CallR X (.builtin "iter") (rIterTN X.K X.s_0.heap.objs.size) := by
  intro pins s σ H xs us Q I r h
  obtain ⟨t, zs, rfl, hq, q⟩ := h
  obtain ⟨u, rfl, rx⟩ := vals1 r
  cases (show u = Value.ref t from rx)
  obtain ⟨its, rv, pl, hz⟩ := I.tuple hq
  refine Calls.call_function_entry (by decide +kernel) (by decide +kernel) PySem.W.kdk_entry_iter (PySem.W.kdk_args_iter _) ?_
  unfold Builtin.«iter»
  refine wpAny_bind (m := someArgs "iter" 1 2 _) (wpAny_of_eq (a := [Value.ref t]) (by first | rfl | kernel_rfl!) ?_)
  show wpAny _ _ (pyIter (.ref t) >>= _) _ _ _
  refine wpAny_bind (wpAny_pyIter_tuple pl (wpAny_pure ⟨_, rfl, ?_⟩))
  exact ⟨.ref s.heap.objs.size, _, I.laid (t' := s.toks) (fun b u e => Heap.get?_push_of_some _ e) (Nat.le_refl _) (titO_ok ⟨_, Heap.get?_push_size _ rfl, rfl, rfl⟩), rfl, q _ (I.hok.fresh (Nat.le_refl _)) I.sz⟩
def spIterN (C : Addr) (f : Str) : Nat → Sp := fun n vs H Q _ => ∃ a dx fs t zs, vs = [.ref a] ∧ H a = some (.ins C dx fs) ∧ fs.lookup f = some (.ref t) ∧ H t = some (.tup zs) ∧ ∀ it, H it = none → n ≤ it → Q (.ref it) (upd H it (TitO t it))
theorem FnN.plain {P : Program} {w : World} {K : PySem.W.Frag} {mg : Str → Option Value} {base : Heap} {k : Nat} {f C : Addr} {fd : FuncData} {ps : List Str} {g : Str} (F : FnN P w K mg base CX0 k f fd ps (spIterN C g)) : FnOk P w K mg base CX0 k f fd ps (spIterT C g) :=
  ⟨fun vs H Q E h => F.len 0 vs H Q E (let ⟨a, dx, fs, t, zs, h1, h2, h3, h4, q⟩ := h; ⟨a, dx, fs, t, zs, h1, h2, h3, h4, fun it hi _ => q it hi⟩),
   fun A outer s H args us vs Q E hr e0 hb r h => F.run A outer s H args us vs Q E hr e0 hb r (let ⟨a, dx, fs, t, zs, h1, h2, h3, h4, q⟩ := h; ⟨a, dx, fs, t, zs, h1, h2, h3, h4, fun it hi _ => q it hi⟩)⟩
/-- for .. in e, e of such a class -/
def iOwnT (K : PySem.W.Frag) (C : Addr) (f : Str) (te : TE) : TI := fun σ H R => te σ H fun x H1 => ∃ a dx fs t zs, x = .ref a ∧ H1 a = some (.ins C dx fs) ∧ fs.lookup f = some (.ref t) ∧ H1 t = some (.tup zs) ∧ R (Itt K t) H1
variable {kI : Nat} {C fI : Addr} {fdI : FuncData} {psI : List Str} {f : Str} {e tg : Expr} {te : TE}
theorem pi_ownT (MI : SpM X.K C fI "__iter__") (FI : FnN X.prog X.w X.K X.mg X.base CX0 kI fI fdI psI (spIterN C f)) (bI : Binds X.K fdI psI []) (rI : Room kI X.A) (he : PE X e te) : PI X tg e (iOwnT X.K C f te) := by
  refine ⟨fun pins s σ H R I h => ?_⟩
  refine thn (he.run pins s σ H _ I h) fun v s0 ⟨x, HA, IA, rx, a, dx, fs, t, zs, ex, ha, hl, ht, q⟩ => ?_
  subst ex
  cases (show v = Value.ref a from rx)
  obtain ⟨mA, J, _⟩ := ins_get IA.hok ha
  obtain ⟨od, J, _⟩ := J.look
  obtain ⟨m0, hF⟩ := IA.fr
  refine PySem.W.owit_iter hF IA.ok.mod.kin J MI.hs MI.hf ?_
  have rv0 : Vals [V.ref a] [Value.ref a] := .cons rfl .nil
  have hsp : spIterN C f s0.heap.objs.size [.ref a] HA (fun v H' => ∃ it, HA it = none ∧ s0.heap.objs.size ≤ it ∧ v = .ref it ∧ H' = upd HA it (TitO t it)) (fun _ _ _ => False) := ⟨a, dx, fs, t, zs, rfl, ha, hl, ht, fun it hi hn => ⟨it, hi, hn, rfl, rfl⟩⟩
  have hlen := FI.len _ _ _ _ _ hsp
  refine wpAny_call (codeAny_mono (FI.run X.A X.stack s0 HA ⟨[.ref a], []⟩ [.ref a] [.ref a] _ _ rI IA.env0 (by
    have z := bI s0 [.ref a] IA.kIn (by simpa using hlen)
    simpa using z) rv0 hsp) fun r s1 hr1 => ?_)
  cases r with
  | error e => exact hr1.elim
  | ok fl =>
    cases fl with
    | next => exact False.elim hr1
    | brk => exact False.elim hr1
    | cont => exact False.elim hr1
    | ret u =>
      obtain ⟨v, H1, I1, rv, it, hit, hy, ev, eH⟩ := IA.after hr1
      subst ev
      subst eH
      cases (show u = Value.ref it from rv)
      have ti1 : s1.heap.IsTupleIter it t 0 := (I1.hok it _ upd_same).1
      show PySem.W.OwitIt _ _ _ _ _ _
      unfold PySem.W.OwitIt
      refine wpAny_specialOf (name := Str.ofString "__next__") ti1.typeIs PySem.F.slot_tuple_iterator_next.lookup ?_
      dsimp only
      have I2 := ItX.inv_drop I1 upd_same
      have fp := ItX.inv_fp I1 upd_same (Nat.le_trans IA.sz hy)
      rw [ItX.dropH_upd hit] at I2 fp
      exact ⟨it, [it], _, _, HA, rfl, I2, turn_tuple t it, ti1, fun b hb => by rw [List.mem_singleton.mp hb]; exact fp, q⟩
end
end L2

/-! Loops and comprehensions over what is known: lists, tuples, ranges, own classes. -/
namespace AW
open PySem PySem.Spec PyProof.Rows L2
/-- what an iterator gives, as long as ka holds -/
def Gives (J : It) (xs : List V) (ka : Hp → Prop) : Prop := ∀ kn H, Ext kn H → ka kn →
  (∀ i, i < xs.length → J.go i H) ∧ (∀ i, xs.length ≤ i → J.stop i H) ∧ ∀ i x H', J.yld i H x H' → H' = H ∧ (i < xs.length → xs[i]? = some x)
def WI (c : Cw) (wi : Hp → (It → Hp → Prop) → Prop) (kn : Hp) (n : Nat) (R : It → Hp → Nat → Prop) : Prop :=
  ∀ H, Good c kn n H → ∀ R' : It → Hp → Prop, (∀ J kn' n' H', R J kn' n' → Good c kn' n' H' → R' J H') → wi H R'
section
variable {K : PySem.W.Frag} {a : Addr} {xs : List V}
theorem gives_tup : Gives (Itt K a) xs fun kn => kn a = some (.tup xs) := fun kn H e h =>
  ⟨fun i hi => ⟨xs, xs[i], sqt (e _ _ h), List.getElem?_eq_getElem hi⟩, fun i hi => ⟨xs, sqt (e _ _ h), hi⟩, fun i x H' y => ⟨y.1, fun _ => y.2 xs (sqt (e _ _ h))⟩⟩
theorem gives_lst : Gives (Itl K a) xs fun kn => kn a = some (.lst xs) := fun kn H e h =>
  ⟨fun i hi => ⟨xs, xs[i], sql (e _ _ h), List.getElem?_eq_getElem hi⟩, fun i hi => ⟨xs, sql (e _ _ h), hi⟩, fun i x H' y => ⟨y.1, fun _ => y.2 xs (sql (e _ _ h))⟩⟩
theorem gives_rng {lo : Int} {m : Nat} : Gives (Itr lo m) ((List.range m).map fun i => V.int (lo + (i : Nat))) fun _ => True := fun kn H e h =>
  ⟨fun i hi => by rw [List.length_map, List.length_range] at hi; exact hi, fun i hi => by rw [List.length_map, List.length_range] at hi; exact hi,
   fun i x H' y => ⟨y.1, fun hi => by rw [List.length_map, List.length_range] at hi; rw [List.getElem?_map, List.getElem?_range hi, y.2]; rfl⟩⟩
variable {c : Cw} {kn : Hp} {n : Nat} {σ : L2.St} {R : It → Hp → Nat → Prop} {te : TE} {ta : TA}
theorem i_tup (h : W c (te σ) kn n fun x kn1 n1 => ∃ a xs, x = .ref a ∧ kn1 a = some (.tup xs) ∧ R (Itt K a) kn1 n1) : WI c (iTup K te σ) kn n R :=
  fun H g R' q => h H g _ fun x kn1 n1 H1 ⟨a, xs, e, ha, hr⟩ g1 => ⟨a, e, ⟨xs, sqt (g1.ex _ _ ha)⟩, q _ _ _ _ hr g1⟩
theorem i_list (h : W c (te σ) kn n fun x kn1 n1 => ∃ a xs, x = .ref a ∧ kn1 a = some (.lst xs) ∧ R (Itl K a) kn1 n1) : WI c (iList K te σ) kn n R :=
  fun H g R' q => h H g _ fun x kn1 n1 H1 ⟨a, xs, e, ha, hr⟩ g1 => ⟨a, e, ⟨xs, sql (g1.ex _ _ ha)⟩, q _ _ _ _ hr g1⟩
theorem i_rng1 (h : W c (ta σ) kn n fun vs kn1 n1 => ∃ j : Int, vs = [.int j] ∧ -(2 ^ 62) ≤ j ∧ j < 2 ^ 62 ∧ R (Itr 0 j.toNat) kn1 n1) : WI c (iRng1 ta σ) kn n R :=
  fun H g R' q => h H g _ fun vs kn1 n1 H1 ⟨j, e, b1, b2, hr⟩ g1 => ⟨j, e, b1, b2, q _ _ _ _ hr g1⟩
theorem i_rng2 (h : W c (ta σ) kn n fun vs kn1 n1 => ∃ i j : Int, vs = [.int i, .int j] ∧ (-(2 ^ 62) ≤ i ∧ i < 2 ^ 62 ∧ -(2 ^ 62) ≤ j ∧ j < 2 ^ 62) ∧ R (Itr i (j - i).toNat) kn1 n1) : WI c (iRng2 ta σ) kn n R :=
  fun H g R' q => h H g _ fun vs kn1 n1 H1 ⟨i, j, e, b, hr⟩ g1 => ⟨i, j, e, b, q _ _ _ _ hr g1⟩
theorem i_own {C : Addr} {f : Str} (h : W c (te σ) kn n fun x kn1 n1 => ∃ a dx fs t zs, x = .ref a ∧ kn1 a = some (.ins C dx fs) ∧ fs.lookup f = some (.ref t) ∧ kn1 t = some (.tup zs) ∧ R (Itt K t) kn1 n1) : WI c (iOwnT K C f te σ) kn n R :=
  fun H g R' q => h H g _ fun x kn1 n1 H1 ⟨a, dx, fs, t, zs, e, ha, hl, ht, hr⟩ g1 => ⟨a, dx, fs, t, zs, e, g1.ex _ _ ha, hl, g1.ex _ _ ht, q _ _ _ _ hr g1⟩
/-- a loop -/
theorem s_forJ {D : AE} {wi : TI} {gt : TG} {tb : TS}
    (h : WI c (wi σ) kn n fun J kn1 n1 => ∃ (xs : List V) (ka : Hp → Prop) (Pv : Nat → L2.St → Hp → Nat → Prop), Gives J xs ka ∧ Pv 0 σ kn1 n1 ∧ (∀ i σ' kn' n', Pv i σ' kn' n' → ka kn') ∧
      (∀ i x σ' kn' n', xs[i]? = some x → Pv i σ' kn' n' → WG c gt x σ' kn' n' fun σ2 kn2 n2 => WS c tb { D with nx := Pv (i + 1), ct := Pv (i + 1), bk := D.nx } σ2 kn2 n2) ∧
      ∀ σ' kn' n', Pv xs.length σ' kn' n' → D.nx σ' kn' n') : WS c (tFor wi gt tb) D σ kn n := by
  intro H g D' f
  refine h H g _ fun J kn1 n1 H1 hJ g1 => ?_
  obtain ⟨xs, ka, Pv, hG, h0, hk, hs, hd⟩ := hJ
  refine ⟨fun i m σ' H' => m = xs.length - i ∧ i ≤ xs.length ∧ ∃ kn' n', Pv i σ' kn' n' ∧ Good c kn' n' H', ⟨_, rfl, Nat.zero_le _, kn1, n1, h0, g1⟩, ?_⟩
  rintro i m σ' H' ⟨rfl, hi, kn', n', p, g'⟩
  obtain ⟨q1, q2, q3⟩ := hG kn' H' g'.ex (hk _ _ _ _ p)
  by_cases hlt : i < xs.length
  · refine .inr ⟨q1 i hlt, fun σ2 H2 => ∃ kn2 n2, Pv (i + 1) σ2 kn2 n2 ∧ Good c kn2 n2 H2, fun σ2 H2 ⟨kn2, n2, p2, g2⟩ => ⟨xs.length - (i + 1), by omega, rfl, hlt, kn2, n2, p2, g2⟩, fun x H2 y => ?_⟩
    obtain ⟨e, hx⟩ := q3 i x H2 y
    subst e
    refine hs i x σ' kn' n' (hx hlt) p H2 g' _ fun σ3 kn3 n3 H3 h3 g3 => h3 H3 g3 _ ⟨fun σ4 kn4 n4 H4 h4 g4 => ⟨kn4, n4, h4, g4⟩, f.rt, fun σ4 kn4 n4 H4 h4 g4 => f.nx _ _ _ _ h4 g4, fun σ4 kn4 n4 H4 h4 g4 => ⟨kn4, n4, h4, g4⟩⟩
  · have e : i = xs.length := Nat.le_antisymm hi (Nat.le_of_not_lt hlt)
    exact .inl ⟨q2 i (Nat.le_of_not_lt hlt), f.nx _ _ _ _ (hd σ' kn' n' (e ▸ p)) g'⟩
/-- a comprehension of a list -/
theorem w_lc {Q : V → Hp → Nat → Prop} {wi : TI} {gt : TG} {tt : TT} {vs : List Nat}
    (h : WI c (wi σ) kn n fun J kn1 n1 => ∃ (xs : List V) (ka : Hp → Prop) (Pv : Addr → Nat → List V → Hp → Nat → Prop), Gives J xs ka ∧ xs.length ≤ 100000 ∧ (∀ D, kn1 D = none → Pv D 0 [] (upd kn1 D (.lst [])) n1) ∧
      (∀ D i acc kn' n', Pv D i acc kn' n' → ka kn' ∧ kn' D = some (.lst acc) ∧ acc.length ≤ i) ∧
      (∀ D i acc x kn' n', xs[i]? = some x → Pv D i acc kn' n' → WG c gt x (wipe σ vs) kn' n' fun σ2 kn2 n2 => wipe σ2 vs = wipe σ vs ∧ W c (tt σ2) kn2 n2 fun b kn3 n3 =>
        (b = true → W c (te σ2) kn3 n3 fun y kn4 n4 => kn4 D = some (.lst acc) ∧ Pv D (i + 1) (acc ++ [y]) (upd kn4 D (.lst (acc ++ [y]))) n4) ∧ (b = false → Pv D (i + 1) acc kn3 n3)) ∧
      ∀ D acc kn' n', Pv D xs.length acc kn' n' → Q (.ref D) kn' n') : W c (tLc wi gt tt te vs σ) kn n Q := by
  intro H g Q' q
  refine h H g _ fun J kn1 n1 H1 hJ g1 => ?_
  obtain ⟨xs, ka, Pv, hG, hz, h0, hk, hs, hd⟩ := hJ
  intro D hD
  refine ⟨fun i m H' => m = xs.length - i ∧ i ≤ xs.length ∧ ∃ acc kn' n', Pv D i acc kn' n' ∧ Good c kn' n' H', ⟨_, rfl, Nat.zero_le _, [], _, _, h0 D (g1.free hD), g1.new hD⟩, ?_⟩
  rintro i m H' ⟨rfl, hi, acc, kn', n', p, g'⟩
  obtain ⟨k1, k2, k3⟩ := hk _ _ _ _ _ p
  obtain ⟨q1, q2, q3⟩ := hG kn' H' g'.ex k1
  by_cases hlt : i < xs.length
  · refine .inr ⟨q1 i hlt, fun H2 => ∃ acc kn2 n2, Pv D (i + 1) acc kn2 n2 ∧ Good c kn2 n2 H2, fun H2 ⟨acc, kn2, n2, p2, g2⟩ => ⟨xs.length - (i + 1), by omega, rfl, hlt, acc, kn2, n2, p2, g2⟩, fun x H2 y => ?_⟩
    obtain ⟨e, hx⟩ := q3 i x H2 y
    subst e
    refine hs D i acc x kn' n' (hx hlt) p H2 g' _ fun σ3 kn3 n3 H3 h3 g3 => ⟨h3.1, h3.2 H3 g3 _ fun b kn4 n4 H4 h4 g4 => ?_⟩
    cases b with
    | true => exact iteT (h4.1 rfl H4 g4 _ fun y kn5 n5 H5 h5 g5 => ⟨acc, g5.ex _ _ h5.1, by rw [sizeLine_eq]; omega, _, _, _, h5.2, g5.put h5.1 rfl⟩)
    | false => exact iteF ⟨_, _, _, h4.2 rfl, g4⟩
  · have e : i = xs.length := Nat.le_antisymm hi (Nat.le_of_not_lt hlt)
    exact .inl ⟨q2 i (Nat.le_of_not_lt hlt), q _ _ _ _ (hd D acc kn' n' (e ▸ p)) g'⟩
end
end AW

/-! bool(o) by an own __bool__; static methods; loops over lists or tuples; isinstance with a tuple; all. -/
namespace L2
open PySem PySem.Spec PyProof.Rows
theorem bool_new_own {prog : Program} {w : World} {x : Addr} : MeetsIn prog w (Builtin.«bool.__new__» ⟨[.type "bool", .ref x], []⟩) (fun A R s => wpAny (model prog w) A.in1 (truthy (.ref x)) (fun b s' => R (.ok (.ret (.bool b))) { s' with toks := s'.toks }) (fun e s' => R (.error e) s') s) := by
  intro A R s h
  obtain ⟨hp, g, d, tk, os⟩ := s
  have f1 := F.conv_sub_bool
  repeat (any_goals (first | assumption | (with_reducible refine wpAny_mono h (fun b s' hb => ?_) (fun _ _ z => z)) | wp_step))
  all_goals first | exact hb | exact ⟨_, rfl, hb⟩
section
variable {X : Cx} {CX : CXT} {k : Nat} {f C p : Addr} {fd : FuncData} {ps : List Str} {sp : Sp} {E : XK}
/-- bool(o) -/
def rBoolO (C : Addr) (sp : Sp) : List V → Hp → VK → Prop := fun xs H Q => ∃ a dx fs, xs = [.ref a] ∧ H a = some (.ins C dx fs) ∧ sp [.ref a] H (fun v H' => ∃ b, v = .bl b ∧ Q (.bl b) H') (fun _ _ _ => False)
theorem c_boolO (M : SpM X.K C f "__bool__") (F : FnOk X.prog X.w X.K X.mg X.base CX k f fd ps sp) (hr : Room (k + 2) X.A) (hb : Binds X.K fd ps []) (hx : Passes CX X (fun _ _ _ => False)) : CallR X (.type "bool") (rBoolO C sp) := by
  intro pins s σ H xs us Q I r h
  obtain ⟨a, dx, fs, rfl, ha, hq⟩ := h
  obtain ⟨u, rfl, rx⟩ := vals1 r
  cases (show u = Value.ref a from rx)
  obtain ⟨_, J, _⟩ := ins_get I.hok ha
  obtain ⟨_, J, _⟩ := J.look
  obtain ⟨_, hF⟩ := I.fr
  refine callType_newIn PySem.F.called_bool PySem.F.newNe_bool (PySem.F.typeCall_bool_1 _) (PySem.F.newCall_bool_1 _) (fun obj => PySem.F.args_object_init_2 obj _) PySem.F.entry_bool_new bool_new_own ?_
  refine PySem.W.truthy_K hF I.ok.mod.kin J M.hs M.hf (wpAny_mono (callA (A := X.A.in1.in1) (vs := [.ref a]) F hr.in1.in1 rfl hb hx I (.cons rfl .nil) hq) (fun z s' hz => ?_) fun _ _ z => z)
  obtain ⟨v', H', I', rv, b, e, q⟩ := hz
  subst e
  cases (show z = Value.bool b from rv)
  exact ⟨PySem.typeIs_bool _ _, .bl b, H', I', rfl, q⟩
end
end L2
namespace L2
open PySem PySem.Spec PyProof.Rows ClX
/-- C.m is a static method: its record at p, its def at f -/
structure SMet (K : PySem.W.Frag) (C : Addr) (mc : Value) (m : Str) (p f : Addr) : Prop where
  at_ : PySem.W.findCls K (.ref C) mc m = some (.get (.builtin "staticmethod.__get__") (.ref p) .none (.ref C))
  rc : ∃ rest, PySem.W.recIn K p "staticmethod" = some (.ref f :: rest)
  kp : PySem.W.keepIn K (.ref f) = true
section
variable {X : Cx} {CX : CXT} {k : Nat} {f C p : Addr} {mc : Value} {m : Str} {fd : FuncData} {ps : List Str} {sp : Sp} {E : XK} {o e : Expr} {es : List Expr} {pos apos : Pos} {ta : TE} {t : TA} {pl : Sem Bool} {pins : List (Addr × Obj)} {σ : St} {H : Hp} {s : Shared}
theorem getsm_ok {A : Around} {E : Value → Shared → Prop} {Q : Value × List Value → Shared → Prop} (I : Inv X pins σ H s) (r : CRead X.K C mc) (c : SMet X.K C mc m p f) (h : ∀ s', Inv X pins σ H s' → Q (.ref f, []) s') : wpAny (model X.prog X.w) A (getMethod (.ref C) m pl) Q E s := by
  obtain ⟨rest, hp⟩ := c.rc
  exact PySem.W.method_cls I.kIn r.ga (PySem.W.cls_bind I.kIn r.rd c.at_ (wpAny_call (PySem.W.sm_get (s := { s with toks := s.toks + 1 }) I.kIn hp (PySem.W.handed_on rfl (h _ (I.tok _))))))
def tSMeth (C : Addr) (sp : Sp) (E : XK) (ta : TE) (t : TA) : TE := fun σ H Q => ta σ H fun x H1 => x = .ref C ∧ t σ H1 fun vs H2 => sp vs H2 Q E
theorem pe_smeth (he : PE X o ta) (r : CRead X.K C mc) (c : SMet X.K C mc m p f) (F : FnR X.prog X.w X.K X.mg X.base CX k f sp) (hr : Room k X.A) (hx : Passes CX X E) (ha : PA X (e :: es) t)
    (hst : starEach (e :: es) X.env = (false, eval e X.env) :: starEach es X.env := by rfl) (hpl : (backTo pos (starEach es X.env)).any (·.1) = false := by rfl)
    (ht : eval (.Call (.Attribute o m apos) (e :: es) [] pos) X.env = (do
      let ov ← eval o X.env
      standAt apos.atName
      let (f, first) ← holding [ov] (getMethod ov m pl)
      callWith pos f first (backTo pos (starEach (e :: es) X.env)) (backToKw pos (keywordEach [] X.env))) := by rfl) :
    PE X (.Call (.Attribute o m apos) (e :: es) [] pos) (tSMeth C sp E ta t) := by
  refine ⟨fun pins s σ H Q I h => ?_⟩
  refine PySem.W.methodCall_KW (pl := pl) (thn (he.run pins s σ H _ I h) fun u s1 ⟨x, H1, I1, rx, ex, q⟩ => ?_) ht
  subst ex
  obtain rfl : u = Value.ref C := rx
  refine getsm_ok I1 r c fun s2 I2 => ?_
  exact PySem.W.callWith_K (h₀ := X.base) I2.ok.mod.kin c.kp (thn (ha.run pos pins s2 σ H1 _ I2 q) fun us s3 ⟨vs, H2, I3, rv, q2⟩ => ⟨I3.kIn, wpAny_call (run_fnR F hr hx I3 rv q2)⟩) hst hpl
theorem pe_smeth0 (he : PE X o ta) (r : CRead X.K C mc) (c : SMet X.K C mc m p f) (F : FnR X.prog X.w X.K X.mg X.base CX k f sp) (hr : Room k X.A) (hx : Passes CX X E)
    (ht : eval (.Call (.Attribute o m apos) [] [] pos) X.env = (do
      let ov ← eval o X.env
      standAt apos.atName
      let (f, first) ← holding [ov] (getMethod ov m pl)
      callWith pos f first (backTo pos (starEach [] X.env)) (backToKw pos (keywordEach [] X.env))) := by rfl) :
    PE X (.Call (.Attribute o m apos) [] [] pos) (tSMeth C sp E ta tNil) := by
  refine ⟨fun pins s σ H Q I h => ?_⟩
  refine PySem.W.methodCall_KW (pl := pl) (thn (he.run pins s σ H _ I h) fun u s1 ⟨x, H1, I1, rx, ex, q⟩ => ?_) ht
  subst ex
  obtain rfl : u = Value.ref C := rx
  refine getsm_ok I1 r c fun s2 I2 => ?_
  exact PySem.W.callWith_K0 I2.kIn c.kp (wpAny_call (run_fnR (us := []) F hr hx I2 .nil q))
/-- for x in e, e a list or a tuple -/
def iSeq (K : PySem.W.Frag) (te : TE) : TI := fun σ H R => iList K te σ H R ∨ iTup K te σ H R
theorem pi_seq {tg e : Expr} {te : TE} (he : PE X e te) : PI X tg e (iSeq X.K te) := by
  refine ⟨fun pins s σ H R I h => ?_⟩
  rcases h with h | h
  · exact (pi_list he).run pins s σ H R I h
  · exact (pi_tup he).run pins s σ H R I h
def rAllQ (K : PySem.W.Frag) : List V → Hp → VK → Prop := fun vs H Q => ∃ (a : Addr) (bs : List Bool), vs = [V.ref a] ∧ SqL K H a (bs.map V.bl) ∧ Q (.bl (bs.all id)) H
theorem c_allQ (hc : X.calm = true) : CallR X (.builtin "all") (rAllQ X.K) := cr_all hc
def rInQ (K : PySem.W.Frag) (neg : Bool) : R2 := fun x y H Q => ∃ p xs, y = .ref p ∧ (SqL K H p xs ∨ SqT K H p xs) ∧ flatV x = true ∧ xs.all flatV = true ∧ Q (.bl (if neg then !inV x xs else inV x xs)) H
theorem c_inQ : OpR X (compareOp .In) (rInQ X.K false) := op_in_seq
theorem c_notInQ : OpR X (compareOp .NotIn) (rInQ X.K true) := op_notIn_seq
end
end L2
namespace AW
open PySem PySem.Spec PyProof.Rows L2 ClX
section
variable {c : Cw} {kn : Hp} {n : Nat} {σ : L2.St} {Q : V → Hp → Nat → Prop} {K : PySem.W.Frag} {E : XK} {EA : EAK} {B : List V → Hp → AK → AXK → Prop} {C : Addr} {R : It → Hp → Nat → Prop}
theorem r_boolO {a dx : Addr} {fs : List (Str × V)} (hm : MonoX B) (ha : kn a = some (.ins C dx fs)) (h : B [.ref a] kn (fun v k => ∃ b, v = .bl b ∧ Q (.bl b) k n) (fun _ _ _ => False)) : W c (rBoolO C (liftX B) [.ref a]) kn n Q :=
  fun H g Q' q => ⟨a, dx, fs, rfl, g.ex _ _ ha, sp_call (EA := fun _ _ _ _ => False) (Q := fun v k n => ∃ b, v = .bl b ∧ Q (.bl b) k n) hm err_no h H g _ fun v kn1 n1 H1 ⟨b, e, hq⟩ g1 => ⟨b, e, q _ _ _ _ hq g1⟩⟩
theorem w_smeth {ta : TE} {t : TA} (hm : MonoX B) (hE : ErrOk c EA E) (h : W c (ta σ) kn n fun x kn1 n1 => x = .ref C ∧ W c (t σ) kn1 n1 fun vs kn2 n2 => B vs kn2 (fun v k => Q v k n2) (fun cls d k => EA cls d k n2)) : W c (tSMeth C (liftX B) E ta t σ) kn n Q :=
  fun H g Q' q => h H g _ fun x kn1 n1 H1 ⟨e, h1⟩ g1 => ⟨e, h1 H1 g1 _ fun vs kn2 n2 H2 h2 g2 => sp_call hm hE h2 H2 g2 Q' q⟩
/-- a static method with *rest -/
def spStar (m : Nat) (B : List V → Hp → AK → AXK → Prop) : Sp := fun vs H Q E => ∃ ws rest, vs = ws ++ rest ∧ ws.length = m ∧ rest.length ≤ sizeLine ∧ ∀ p, H p = Option.none → liftX B (ws ++ [V.ref p]) (upd H p (.tup rest)) Q E
theorem w_smethS {ta : TE} {t : TA} {m : Nat} (hm : MonoX B) (hE : ErrOk c EA E) (h : W c (ta σ) kn n fun x kn1 n1 => x = .ref C ∧ W c (t σ) kn1 n1 fun vs kn2 n2 => ∃ ws rest, vs = ws ++ rest ∧ ws.length = m ∧ rest.length ≤ 1000 ∧
    ∀ p, kn2 p = none → B (ws ++ [.ref p]) (upd kn2 p (.tup rest)) (fun v k => Q v k n2) (fun cls d k => EA cls d k n2)) : W c (tSMeth C (spStar m B) E ta t σ) kn n Q :=
  fun H g Q' q => h H g _ fun x kn1 n1 H1 ⟨e, h1⟩ g1 => ⟨e, h1 H1 g1 _ fun vs kn2 n2 H2 ⟨ws, rest, e1, e2, e3, h2⟩ g2 => ⟨ws, rest, e1, e2, Nat.le_trans e3 (by rw [sizeLine_eq]; decide), fun p hp => sp_call hm hE (h2 p (g2.free hp)) _ (g2.new hp) Q' q⟩⟩
theorem i_seqV {i : Nat} {a : Addr} {xs : List V} (hv : σ[i]? = some (some (.ref a))) (h : (kn a = some (.lst xs) ∧ R (Itl K a) kn n) ∨ (kn a = some (.tup xs) ∧ R (Itt K a) kn n)) : WI c (iSeq K (tVar i) σ) kn n R := by
  intro H g R' q
  rcases h with ⟨ha, h⟩ | ⟨ha, h⟩
  · exact .inl (i_list (w_var hv ⟨a, xs, rfl, ha, h⟩) H g R' q)
  · exact .inr (i_tup (w_var hv ⟨a, xs, rfl, ha, h⟩) H g R' q)
theorem r_isiT {x : V} {tp : Addr} {cs : List V} {t : Value} {us : List Value} {b : Bool} (h : kn tp = some (.tup cs)) (p : Paired ClsV cs us) (ty : TyX K kn x t) (e : PySem.W.kitAny K t us = some b) (q : Q (.bl b) kn n) : W c (rIsiT K [x, .ref tp]) kn n Q :=
  fun H g _ f => ⟨x, tp, cs, t, us, b, rfl, g.ex _ _ h, p, tyx_ext g.ex ty, e, f _ kn n H q g⟩
theorem r_allQ {a : Addr} {bs : List Bool} (h : kn a = some (.lst (bs.map V.bl))) (q : Q (.bl (bs.all id)) kn n) : W c (rAllQ K [.ref a]) kn n Q := fun H g _ k => ⟨a, bs, rfl, sql (g.ex _ _ h), k _ kn n H q g⟩
theorem r_inQ {x : V} {p : Addr} {xs : List V} {neg : Bool} (h : kn p = some (.lst xs) ∨ kn p = some (.tup xs)) (h1 : flatV x = true) (h2 : xs.all flatV = true) (q : Q (.bl (if neg then !inV x xs else inV x xs)) kn n) : W c (rInQ K neg x (.ref p)) kn n Q :=
  fun H g _ k => ⟨p, xs, rfl, h.imp (fun z => sql (g.ex _ _ z)) (fun z => sqt (g.ex _ _ z)), h1, h2, k _ kn n H q g⟩
end
end AW

/-! The pen: what it draws is not told, but its bounds. -/
namespace AW
open PySem PySem.Spec PyProof.Rows L2 LamX
/-- the pen: a list of the cells' list, the spot, the number that is left over -/
structure PenAt (H : Hp) (p a : Addr) (ns : List Int) (n : Nat) : Prop where
  pen : ∃ i g : Int, H p = some (.lst [.ref a, .int i, .int g]) ∧ 0 ≤ i ∧ i ≤ n ∧ 0 ≤ g
  cells : H a = some (.lst (ns.map V.int))
  pa : p ≠ a
theorem PenAt.mono {H : Hp} {p a : Addr} {ns : List Int} {n m : Nat} (h : PenAt H p a ns n) (e : n ≤ m) : PenAt H p a ns m := by
  obtain ⟨⟨i, g, h1, h2, h3, h4⟩, h5, h6⟩ := h
  exact ⟨⟨i, g, h1, h2, by omega, h4⟩, h5, h6⟩
/-- _law_draw -/
def spDraw : Sp := fun vs H Q _ => ∃ (p a : Addr) (ns : List Int) (n : Nat) (many : Int), vs = [.ref p, .int many] ∧ PenAt H p a ns n ∧ n < 1000000 ∧ 0 < many ∧ many < 1180591620717411303424 ∧
  ∀ (k : Int) (H' : Hp), 0 ≤ k → k < many → PenAt H' p a ns (n + 1) → (∀ x o, x ≠ p → H x = some o → H' x = some o) → Q (.int k) H'
theorem nil_eqv (ns : List Int) : PyData.eqv (.list (ns.map PyData.int)) (.list []) = ns.isEmpty := by
  cases ns <;> simp [PyData.eqv, PyData.eqvAll]
theorem dp_ints {K : PySem.W.Frag} {H : Hp} : ∀ ns : List Int, DpAll K H (ns.map V.int) (ns.map PyData.int)
  | [] => .nil
  | n :: r => .cons (.int n) (dp_ints r)
theorem mul_bd {a b A B : Int} (h1 : 0 ≤ a) (h2 : a ≤ A) (h3 : 0 ≤ b) (h4 : b ≤ B) : 0 ≤ a * b ∧ a * b ≤ A * B :=
  ⟨Int.mul_nonneg h1 h3, Int.mul_le_mul h2 h4 h3 (Int.le_trans h1 h2)⟩
theorem at_mod (ns : List Int) (i : Int) (h : 0 < ns.length) : ∃ z, atI (ns.map V.int) (i % ((ns.map V.int).length : Int)) = some (.int z) := by
  rw [List.length_map]
  have h1 : 0 ≤ i % (ns.length : Int) := Int.emod_nonneg _ (by omega)
  have h2 : i % (ns.length : Int) < ns.length := Int.emod_lt_of_pos _ (by omega)
  obtain ⟨j, hj⟩ : ∃ j : Nat, i % (ns.length : Int) = j := ⟨(i % (ns.length : Int)).toNat, by omega⟩
  have hj2 : j < ns.length := by omega
  rw [hj]
  refine ⟨ns[j], atI_nat ?_⟩
  rw [List.getElem?_map, List.getElem?_eq_getElem hj2]
  rfl
theorem lay_ints : ∀ ns : List Int, PyData.canLayAll0 (ns.map PyData.int) = true
  | [] => by simp [PyData.canLayAll0]
  | n :: r => by simp only [List.map_cons, PyData.canLayAll0, PyData.canLay0, Bool.true_and]; exact lay_ints r
theorem deep_ints : ∀ ns : List Int, PyData.depthAll (ns.map PyData.int) = 0
  | [] => by simp [PyData.depthAll]
  | n :: r => by simp only [List.map_cons, PyData.depthAll, PyData.depth]; rw [deep_ints r]; rfl
theorem shaped_ints (ns : List Int) : SeqAt.shaped (.list (ns.map PyData.int)) = true := by
  unfold SeqAt.shaped
  rw [show PyData.canLay0 (.list (ns.map PyData.int)) = true by simp only [PyData.canLay0]; exact lay_ints ns, show PyData.depth (.list (ns.map PyData.int)) = 1 by simp only [PyData.depth]; rw [deep_ints ns]]
  rfl
theorem weigh_int {i : Int} (h : i.natAbs < 10 ^ 12) : PyData.weight (.int i) ≤ 41 := by
  simp only [PyData.weight]
  split
  · omega
  · rename_i z
    have z0 : i.natAbs ≠ 0 := fun e => z (by rw [beq_iff_eq]; omega)
    have a : i.natAbs < 2 ^ 40 := by omega
    have := (Nat.log2_lt z0).mpr a
    omega
theorem weigh_ints : ∀ ns : List Int, (∀ n ∈ ns, n.natAbs < 10 ^ 12) → PyData.weightAll (ns.map PyData.int) ≤ 42 * ns.length
  | [], _ => by simp [PyData.weightAll]
  | n :: r, h => by
    have h1 := weigh_int (h n List.mem_cons_self)
    have h2 := weigh_ints r fun m hm => h m (List.mem_cons_of_mem _ hm)
    simp only [List.map_cons, PyData.weightAll, List.length_cons]
    omega
theorem lay0_ints {ns : List Int} (h : ∀ n ∈ ns, n.natAbs < 10 ^ 12) (l : ns.length ≤ 1000) : PyData.layable0 (.list (ns.map PyData.int)) = true := by
  have h1 := weigh_ints ns h
  have h2 : PyData.weight (.list (ns.map PyData.int)) ≤ 2 ^ 20 := by simp only [PyData.weight]; omega
  unfold PyData.layable0
  rw [show PyData.canLay0 (.list (ns.map PyData.int)) = true by simp only [PyData.canLay0]; exact lay_ints ns, show PyData.depth (.list (ns.map PyData.int)) = 1 by simp only [PyData.depth]; rw [deep_ints ns], decide_eq_true h2]
  rfl
theorem show_ints : ∀ ns : List Int, (∀ n ∈ ns, n.natAbs < 10 ^ 12) → PyData.showableAll (ns.map PyData.int) = true
  | [], _ => by simp [PyData.showableAll]
  | n :: r, h => by
    have h0 : n.natAbs.log2 < 1920 := by
      have := h n List.mem_cons_self
      by_cases z : n.natAbs = 0
      · rw [z]; decide
      · exact Nat.lt_trans ((Nat.log2_lt z).mpr (show n.natAbs < 2 ^ 40 by omega)) (by decide)
    simp only [List.map_cons, PyData.showableAll, PyData.showable, decide_eq_true h0, Bool.true_and]
    exact show_ints r fun m hm => h m (List.mem_cons_of_mem _ hm)
theorem nodict_ints : ∀ ns : List Int, PyData.hasDictAll (ns.map PyData.int) = false
  | [] => by simp [PyData.hasDictAll]
  | n :: r => by simp only [List.map_cons, PyData.hasDictAll, PyData.hasDict, Bool.false_or]; exact nodict_ints r
theorem r_reprInts {K : PySem.W.Frag} {c : Cw} {kn : Hp} {n : Nat} {Q : V → Hp → Nat → Prop} {a : Addr} {vs : List V} (ns : List Int) (e : vs = ns.map V.int) (h : kn a = some (.lst vs)) (hb : ∀ n ∈ ns, n.natAbs < 10 ^ 12) (hl : ns.length ≤ 1000) (q : Q (.str (PyData.shown (.list (ns.map PyData.int)))) kn n) : W c (rRepr K [.ref a]) kn n Q := by
  subst e
  refine r_repr (.lst (sql h) (dp_ints ns)) ?_ ?_ ?_ ?_ q
  · simp only [PyData.showable]; exact show_ints ns hb
  · simp only [PyData.hasDict]; exact nodict_ints ns
  · simp only [PyData.depth]; rw [deep_ints ns]; decide
  · exact PyData.shown_fits_of_layable0 (B := 13) (by decide) (by decide) (lay0_ints hb hl) (by simp only [PyData.intsShort]; exact PyData.intsShortAll_ints ns hb)
theorem r_cat {c : Cw} {kn : Hp} {n : Nat} {Q : V → Hp → Nat → Prop} {l b : Addr} {xs zs : List V} (h1 : kn l = some (.lst xs)) (h2 : kn b = some (.lst zs)) (hz : xs.length + zs.length ≤ 1000) (q : ∀ p, kn p = none → Q (.ref p) (upd kn p (.lst (xs ++ zs))) n) : W c (rCat (.ref l) (.ref b)) kn n Q :=
  fun H g _ k => ⟨l, b, xs, zs, rfl, rfl, g.ex _ _ h1, g.ex _ _ h2, Nat.le_trans hz (by rw [sizeLine_eq]; decide), fun p hp => k _ _ _ _ (q p (g.free hp)) (g.new hp)⟩
theorem w_append {K : PySem.W.Frag} {c : Cw} {kn : Hp} {n i : Nat} {σ : L2.St} {Q : V → Hp → Nat → Prop} {l : Addr} {xs0 : List V} {t : TA} (hv : σ[i]? = some (some (.ref l))) (h0 : kn l = some (.lst xs0))
    (h : W c (t σ) kn n fun vs kn1 n1 => ∃ y xs, vs = [y] ∧ kn1 l = some (.lst xs) ∧ xs.length ≤ 1000 ∧ Q .non (upd kn1 l (.lst (xs ++ [y]))) n1) : W c (tBM K "list" rAppend (tVar i) t σ) kn n Q :=
  fun H g Q' q => ⟨.ref l, hv, .inl ⟨rfl, _, sql (g.ex _ _ h0)⟩, h H g _ fun vs kn1 n1 H1 ⟨y, xs, e, e1, hl, hq⟩ g1 => ⟨l, xs, y, rfl, e, g1.ex _ _ e1, Nat.lt_of_le_of_lt hl (by rw [sizeLine_eq]; decide), q _ _ _ _ hq (g1.put e1 rfl)⟩⟩
theorem Good.grow {c : Cw} {kn H H' : Hp} {n : Nat} {q : Addr} {o : HO} (g : Good c kn n H) (e : Ext H H') (h0 : H q = none) (h1 : H' q = some o) (ht : isTbl o = false := by rfl) : Good c (upd kn q o) n H' := by
  refine ⟨fun x u hx => ?_, c.step n kn H H' g.inv g.res fun x u hx _ => e x u hx, fun x r => ?_, nt_upd g.nt ht⟩
  · by_cases z : x = q
    · rw [z, upd_same] at hx; cases hx; rw [z]; exact h1
    · rw [upd_ne z] at hx; exact e x u (g.ex x u hx)
  · rw [upd_ne (fun z => c.live n H x g.inv r (by rw [z]; exact h0))]
    exact g.res x r
/-- the pen and its cells alone are known -/
def penKn (H : Hp) (p a : Addr) : Hp := fun x => if x = p ∨ x = a then H x else none
theorem TabS.keep {H H' : Hp} {P : Addr} {q : Str} (e : ∀ b o, H b = some o → isMut o = false → H' b = some o) (h : TabS H P q) : TabS H' P q := by
  obtain ⟨ps, h1, h2, h3⟩ := h
  refine ⟨ps, e _ _ h1 rfl, h2, fun pos cv hc => ?_⟩
  obtain ⟨c, e1, e2⟩ := h3 pos cv hc
  exact ⟨c, e1, e _ _ e2 rfl⟩
theorem Tabs.keep {T : List (Addr × Str)} {H H' : Hp} (e : ∀ b o, H b = some o → isMut o = false → H' b = some o) (h : Tabs T H) : Tabs T H' := fun p hp => TabS.keep e (h p hp)
def penC (p a : Addr) (ns : List Int) (T : List (Addr × Str)) : Cw where
  inv n H := PenAt H p a ns n ∧ Tabs T H
  res x := x = p ∨ x = a ∨ ∃ t ∈ T, x = t.1
  live n H x h r := by
    obtain ⟨⟨⟨i, g, h1, _⟩, h2, _⟩, hT⟩ := h
    rcases r with rfl | rfl | ⟨t, ht, rfl⟩
    · rw [h1]; exact fun z => nomatch z
    · rw [h2]; exact fun z => nomatch z
    · obtain ⟨ps, h3, _⟩ := hT t ht
      rw [h3]; exact fun z => nomatch z
  step n kn H H' h r k := by
    obtain ⟨⟨⟨i, g, h1, h1'⟩, h2, h3⟩, hT⟩ := h
    exact ⟨⟨⟨i, g, k _ _ h1 (.inl (r _ (.inl rfl))), h1'⟩, k _ _ h2 (.inl (r _ (.inr (.inl rfl)))), h3⟩, Tabs.keep (fun b o e m => k b o e (.inr m)) hT⟩
  up n m H h l := ⟨h.1.mono l, h.2⟩
section
variable {p a : Addr} {ns : List Int} {T : List (Addr × Str)} {kn : Hp} {n : Nat} {σ : L2.St} {Q : V → Hp → Nat → Prop} {E : XK} {EA : EAK} {B : List V → Hp → AK → AXK → Prop} {t : TA}
theorem w_draw (h : W (penC p a ns T) (t σ) kn n fun vs kn1 n1 => ∃ many, vs = [.ref p, .int many] ∧ n1 < 1000000 ∧ 0 < many ∧ many < 1180591620717411303424 ∧ ∀ k : Int, 0 ≤ k → k < many → Q (.int k) kn1 (n1 + 1)) : W (penC p a ns T) (tCall spDraw [] E t σ) kn n Q :=
  fun H g Q' q => h H g _ fun vs kn1 n1 H1 h1 g1 => by
    obtain ⟨many, rfl, b1, b2, b3, h2⟩ := h1
    refine ⟨p, a, ns, n1, many, rfl, g1.inv.1, b1, b2, b3, fun k H' k0 k1 hp hk => q _ _ _ _ (h2 k k0 k1) ⟨fun x o e => hk x o (fun z => ?_) (g1.ex x o e), ⟨hp, Tabs.keep (fun b o e m => hk b o (fun z => ?_) e) g1.inv.2⟩, g1.res, g1.nt⟩⟩
    · have := g1.res x (.inl z)
      rw [e] at this
      cases this
    · obtain ⟨i, g, hP, _⟩ := g1.inv.1.pen
      rw [z, hP] at e
      cases e
      cases m
/-- a promise of a def that draws m times at most -/
def liftP (T : List (Addr × Str)) (m : Nat) (B : List V → Hp → AK → AXK → Prop) : Sp := fun vs H Q E => ∃ p a ns n kn ws, vs = .ref p :: ws ∧ Good (penC p a ns T) kn n H ∧ n + m < 1000000 ∧
  B ws kn (fun v k => ∀ H', Good (penC p a ns T) k (n + m) H' → Q v H') (fun cls d k => ∀ H', Good (penC p a ns T) k (n + m) H' → E cls d H')
theorem w_callP {m : Nat} (hm : MonoX B) (hE : ErrOk (penC p a ns T) EA E) (h : W (penC p a ns T) (t σ) kn n fun vs kn1 n1 => ∃ ws, vs = .ref p :: ws ∧ n1 + m < 1000000 ∧ B ws kn1 (fun v k => Q v k (n1 + m)) (fun cls d k => EA cls d k (n1 + m))) : W (penC p a ns T) (tCall (liftP T m B) [] E t σ) kn n Q :=
  fun H g Q' q => h H g _ fun vs kn1 n1 H1 h1 g1 => by
    obtain ⟨ws, rfl, hb, h2⟩ := h1
    refine ⟨p, a, ns, n1, kn1, ws, by simp, g1, hb, hm _ _ _ _ _ _ (fun v k hq H' g' => q _ _ _ _ hq g') (fun cls d k hq H' g' => hE _ _ _ _ _ hq g') h2⟩
theorem takes_len {X : Cx} {W : WX} {m : Nat} (tk : L2.Takes X W) (h : X.N.length = m := by rfl) : L2.Takes X (fun cls d σ H => σ.length = m → W cls d σ H) :=
  fun u s' ⟨a, B, sI, pins, σ, H, cls, d, e, I, nb, up, sky, na, os, ag, w⟩ => tk u s' ⟨a, B, sI, pins, σ, H, cls, d, e, I, nb, up, sky, na, os, ag, w (I.len.trans h)⟩
/-- the abstract meaning of def heard(ask): [what was found], or (.., the error's field) -/
def EAh (B : Addr) (word : Str) (Q : V → Hp → Nat → Prop) : EAK := fun cls d kn n => cls = .ref B ∧ ∃ dd fs y, d = some dd ∧ kn dd = some (.xd fs) ∧ fs.lookup ("part" : Str) = some y ∧
  ∀ q kn2, Ext kn kn2 → kn q = none → kn2 q = some (.tup [.str word, y]) → Q (.ref q) kn2 n
def TTh (B : Addr) (word : Str) : (XK → Hp → VK → Prop) → Hp → VK → Prop := fun tl H Q => ∃ (c : Cw) (kn : Hp) (n : Nat) (QA : V → Hp → Nat → Prop), Good c kn n H ∧ (∀ v kn' n' H', QA v kn' n' → Good c kn' n' H' → Q v H') ∧
  ∀ E, ErrOk c (EAh B word QA) E → W c (fun H' Q' => tl E H' Q') kn n fun v kn1 n1 => ∀ q, kn1 q = none → QA (.ref q) (upd kn1 q (.lst [v])) n1
theorem good_lam {H H1 : Hp} (g : Good (penC p a ns T) kn n H) (e : ExtN H H1) (hT : Tabs T H1) : Good (penC p a ns T) kn n H1 := by
  obtain ⟨⟨⟨i, k, h1, h1'⟩, h2, h3⟩, _⟩ := g.inv
  refine ⟨fun x o hx => e x o (g.ex x o hx) (fun ps z => ?_), ⟨⟨⟨i, k, e _ _ h1 (fun _ z => nomatch z), h1'⟩, e _ _ h2 (fun _ z => nomatch z), h3⟩, hT⟩, g.res, g.nt⟩
  have := g.nt x o hx
  rw [z] at this
  cases this
theorem w_lam {B : Addr} {word : Str} {tt : XK → TE}
    (h : ∀ E, ErrOk (penC p a ns T) (EAh B word Q) E → W (penC p a ns T) (tt E σ) kn n fun v kn1 n1 => ∀ q, kn1 q = none → Q (.ref q) (upd kn1 q (.lst [v])) n1) : W (penC p a ns T) (tLam T (TTh B word) tt σ) kn n Q :=
  fun H g Q' q => ⟨g.inv.2, fun H1 e hT => ⟨penC p a ns T, kn, n, Q, good_lam g e hT, q, h⟩⟩
theorem fin_at {c : Cw} {kn : Hp} {n m : Nat} {P : Hp → Prop} (le : n ≤ m) (f : ∀ H', Good c kn m H' → P H') : ∀ H', Good c kn n H' → P H' := fun H' g => f H' (g.up le)
end
end AW

/-! raise .. from None in a handler; an error with two fields; a classmethod. -/
namespace L2
open PySem PySem.Spec PyProof.Rows
theorem Fun.okH {P : Program} {w : World} {K : PySem.W.Frag} {mg : Str → Option Value} {base : Heap} {x qual : Str} {st : Stmt} {f : Addr} {fd : FuncData} {N ps : List Str} {k : Nat} {sp : Sp} (F : Fun K x qual st f fd) (S : FnScope N ps (defScope st)) (len : ∀ vs H Q E, sp vs H Q E → vs.length = ps.length)
    (hbody : ∀ (cdv : Value) (A : Around) (outer : List Env) (s : Shared) (H : Hp) (vs : List V) (Q : VK) (E : XK) (p : Addr × Obj), L2H.RoomH k (A.deeper (envOfC qual (defScope st) s.heap.objs.size f cdv)) → sp vs H Q E →
      ∃ t, PSs (L2H.cxH CX0 P w K mg base N qual (defScope st) f cdv A outer s H E p) (defBody st) t ∧ t { nx := fun _ H' => Q .non H', rt := Q } (start N vs) H) : L2H.FnH P w K mg base CX0 (k + 1) f fd ps sp := by
  obtain ⟨oc, od, kV, doc, pm, an, cdv, ct, osl, rfl, lk, hcd⟩ := F.ex
  exact L2H.fn_ofH lk hcd S len fun A outer s H vs Q E p hp hr hsp => hbody cdv A outer s H vs Q E p hr hsp
/-- an error class whose __init__ sets two fields -/
def spX2 (K : PySem.W.Frag) (f g : Str) : Sp := fun vs H Q _ => ∃ (a C : Addr) (y z : V), vs = [.ref a, y, z] ∧ OexC K C ∧ PySem.W.findIn K (.ref C) f = some none ∧ PySem.W.findIn K (.ref C) g = some none ∧ H a = some (exo a C none) ∧
  ∀ dx, H dx = none → dx ≠ a → Q .non (upd (upd (upd H dx (exd dx [(f, y)])) a (exo a C (some dx))) dx (exd dx [(g, z), (f, y)]))
theorem x2_end {H : Hp} {a d : Addr} {o1 o2 o3 o4 o5 : HO} (ha : H a = none) (hd : d ≠ a) : upd (del (upd (upd (upd (upd H a o1) d o2) a o3) d o5) a) d o4 = upd H d o4 := by
  funext x
  by_cases h1 : x = d
  · rw [h1, upd_same, upd_same]
  · rw [upd_ne h1, upd_ne h1]
    by_cases h2 : x = a
    · rw [h2, del_same, ha]
    · rw [del_ne h2, upd_ne h1, upd_ne h2, upd_ne h1, upd_ne h2]
end L2
namespace AW
open PySem PySem.Spec PyProof.Rows L2
section
variable {c : Cw} {kn : Hp} {n : Nat} {σ : L2.St} {K : PySem.W.Frag} {D : AE} {E : XK} {EA : EAK}
theorem s_raise2 {C : Addr} {f g : Str} {ta : TA} (oc : OexC K C) (hf : PySem.W.findIn K (.ref C) f = some none) (hg : PySem.W.findIn K (.ref C) g = some none) (hE : ErrOk c EA E)
    (h : W c (ta σ) kn n fun vs kn1 n1 => ∃ y z, vs = [y, z] ∧ ∀ d, kn1 d = none → EA (.ref C) (some d) (upd kn1 d (.xd [(g, z), (f, y)])) n1) :
    WS c (fun _ σ H => tMkO C (spX2 K f g) [] ta σ H fun cls d H' => E cls d H') D σ kn n :=
  fun H g0 D' fit => h H g0 _ fun vs kn1 n1 H1 ⟨y, z, e, h1⟩ g1 => by
    subst e
    refine ⟨Nat.le_add_left 2 998, fun a ha => ⟨a, C, y, z, rfl, oc, hf, hg, upd_same, fun d hd hda => ⟨rfl, d, [(g, z), (f, y)], ?_, upd_same, ?_, ?_⟩⟩⟩
    · rw [upd_ne (Ne.symm hda), upd_same]
    · rw [upd_ne hda] at hd
      exact hd
    · rw [upd_ne hda] at hd
      rw [x2_end ha hda]
      exact hE _ _ _ _ _ (h1 d (g1.free hd)) (g1.new hd)
/-- try .. except C: suite (that ends in another error) -/
theorem s_tryO {cv : Value} {tb : WX → TS} {ts : Addr → Value → Option Addr → TS} {Wout : WX}
    (h : ∀ H (D' : Ends), Good c kn n H → Fits c D D' → tb (wOnly K cv ts Wout D') D' σ H) : WS c (fun D' σ H => tb (wOnly K cv ts Wout D') D' σ H) D σ kn n :=
  fun H g D' fit => h H D' g fit
end
end AW
namespace L2
open PySem PySem.Spec PyProof.Rows ClX
section
variable {X : Cx} {CX : CXT} {k : Nat} {f C p : Addr} {mc : Value} {m : Str} {fd : FuncData} {ps : List Str} {B : List V → Hp → AW.AK → AW.AXK → Prop} {E : XK}
end
end L2

/-! Texts of integers: what is read back is what was written. -/
namespace L2
namespace Tx1
open PySem PySem.NumText TL
/-- the text of an integer -/
abbrev dS (i : Int) : Str := Str.ofString (toString i)
theorem dS_nat (n : Nat) : tl (dS n) = numL n := tl_num n
theorem dS_neg {n : Nat} (h : 0 < n) : tl (dS (-(n : Int))) = 45 :: numL n := by
  obtain ⟨m, rfl⟩ : ∃ m, n = m + 1 := ⟨n - 1, by omega⟩
  have e : (toString (-((m + 1 : Nat) : Int))) = "-" ++ toString (((m + 1 : Nat) : Int)) := by
    have : (-((m + 1 : Nat) : Int)) = Int.negSucc m := by omega
    rw [this]
    rfl
  show tl (Str.ofString (toString (-((m + 1 : Nat) : Int)))) = _
  rw [e, tl_ofString, String.toList_append, List.map_append, ← tl_ofString (toString _)]
  rw [tl_num]
  rfl
theorem dS_cases (i : Int) : (∃ n : Nat, i = n ∧ tl (dS i) = numL n) ∨ (∃ n : Nat, 0 < n ∧ i = -(n : Int) ∧ tl (dS i) = 45 :: numL n) := by
  rcases Int.lt_or_le i 0 with h | h
  · refine .inr ⟨i.natAbs, by omega, by omega, ?_⟩
    have e : i = -((i.natAbs : Nat) : Int) := by omega
    have := dS_neg (n := i.natAbs) (by omega)
    rw [← e] at this
    exact this
  · refine .inl ⟨i.natAbs, by omega, ?_⟩
    have e : i = ((i.natAbs : Nat) : Int) := by omega
    have := dS_nat i.natAbs
    rw [← e] at this
    exact this
theorem numL_no45 (n : Nat) : ¬ 45 ∈ numL n := numL_free (.inl (by decide))
theorem dS_free {c : Nat} (h : c ≠ 45) (h2 : c < 48 ∨ 57 < c) (i : Int) : ¬ c ∈ tl (dS i) := by
  rcases dS_cases i with ⟨n, _, e⟩ | ⟨n, _, _, e⟩ <;> rw [e]
  · exact numL_free h2
  · intro hm
    rcases List.mem_cons.1 hm with hm | hm
    · exact h hm
    · exact numL_free h2 hm
theorem ext_str {a b : Str} (h : tl a = tl b) : a = b := by
  have := congrArg (fun l => ({ cps := l.toArray } : Str)) h
  exact (mk_tl a).symm.trans (this.trans (mk_tl b))
theorem dS_inj {i j : Int} (h : dS i = dS j) : i = j := by
  have h := congrArg tl h
  rcases dS_cases i with ⟨n, rfl, e⟩ | ⟨n, hn, rfl, e⟩ <;> rcases dS_cases j with ⟨m, rfl, e2⟩ | ⟨m, hm, rfl, e2⟩ <;> rw [e, e2] at h
  · rw [numL_inj h]
  · exact absurd (h ▸ List.mem_cons_self) (numL_no45 n)
  · exact absurd (h.symm ▸ List.mem_cons_self) (numL_no45 m)
  · rw [numL_inj (List.cons.inj h).2]
/-- the figures of a text without leading zeros -/
def canon (l : List Nat) : List Nat := match l.dropWhile (· == 48) with
  | [] => [48]
  | c :: r => c :: r
theorem toNat_ofNat {c : Nat} (h : 48 ≤ c ∧ c ≤ 57) : (Char.ofNat c).toNat = c := by
  obtain ⟨h1, h2⟩ := h
  have : ∀ c : Nat, c < 58 → (Char.ofNat c).toNat = c := by decide
  exact this c (by omega)
theorem mem_dropWhile {p : Nat → Bool} {c : Nat} : ∀ {l : List Nat}, c ∈ l.dropWhile p → c ∈ l
  | [], h => h
  | a :: l, h => by
    rw [List.dropWhile_cons] at h
    split at h
    · exact List.mem_cons_of_mem _ (mem_dropWhile h)
    · exact h
theorem numL_val_canon {l : List Nat} (h : AllDigits l) : numL (digitsVal l) = canon l := by
  unfold numL canon
  rw [toDigits_all l h]
  have hd : ∀ c ∈ l.dropWhile (· == 48), 48 ≤ c ∧ c ≤ 57 := fun c hc => h c (mem_dropWhile hc)
  revert hd
  generalize l.dropWhile (· == 48) = d
  intro hd
  cases d with
  | nil => rfl
  | cons c r =>
    show List.map Char.toNat (List.map Char.ofNat (c :: r)) = c :: r
    rw [List.map_map]
    exact (List.map_congr_left (fun a ha => toNat_ofNat (hd a ha))).trans (List.map_id _)
theorem len_dropWhile_le {p : Nat → Bool} : ∀ l : List Nat, (l.dropWhile p).length ≤ l.length
  | [] => Nat.le_refl _
  | a :: l => by
    rw [List.dropWhile_cons]
    split
    · have := len_dropWhile_le (p := p) l
      simp only [List.length_cons]
      omega
    · exact Nat.le_refl _
theorem canon_eq {l : List Nat} (hne : l ≠ []) : canon l = l ↔ (l = [48] ∨ l.head? ≠ some 48) := by
  cases l with
  | nil => exact absurd rfl hne
  | cons a r =>
    by_cases ha : a = 48
    · subst ha
      constructor
      · intro h
        left
        unfold canon at h
        rw [List.dropWhile_cons] at h
        simp only [BEq.rfl, if_true] at h
        have hl := len_dropWhile_le (p := (· == 48)) r
        revert h
        generalize hd : r.dropWhile (· == 48) = d
        rw [hd] at hl
        intro h
        cases d with
        | nil => exact h.symm
        | cons c t =>
          exfalso
          have := congrArg List.length h
          simp only [List.length_cons] at this hl
          omega
      · rintro (h | h)
        · rw [h]; rfl
        · exact absurd rfl h
    · constructor
      · intro _
        right
        simpa using ha
      · intro _
        unfold canon
        rw [List.dropWhile_cons]
        have : (a == 48) = false := by simpa using ha
        simp [this]
theorem val_lt : ∀ (k : Nat) (l : List Nat), AllDigits l → l.length ≤ k → digitsVal l < 10 ^ k := by
  intro k
  induction k with
  | zero =>
    intro l h hl
    have : l = [] := List.length_eq_zero_iff.1 (by omega)
    subst this
    decide
  | succ k ih =>
    intro l h hl
    rcases List.eq_nil_or_concat l with rfl | ⟨r, c, rfl⟩
    · show 0 < _
      exact Nat.pos_of_ne_zero (by simp)
    · rw [List.concat_eq_append] at h hl ⊢
      have hr := ih r (fun x hx => h x (List.mem_append_left _ hx)) (by simp at hl; omega)
      have hc := h c (List.mem_append_right _ (List.mem_singleton.2 rfl))
      rw [digitsVal_snoc]
      have : 10 ^ (k + 1) = 10 ^ k * 10 := rfl
      omega
end Tx1
end L2

namespace L2
namespace Tx1
open PySem PySem.NumText TL SX
abbrev minusS : Str := S [45]
abbrev plusS : Str := S [43]
theorem subAt_hd (w : Str) (c : Nat) : (decide (0 + (S [c]).length ≤ w.length) && Builtin.Str.subAt w (S [c]) 0) = decide ((tl w).head? = some c) := by
  unfold Builtin.Str.subAt
  have e1 : (S [c]).length = 1 := rfl
  rw [e1]
  obtain ⟨⟨l⟩⟩ := w
  cases l with
  | nil => simp [tl, Str.length]
  | cons a r =>
    simp only [Str.length, tl]
    by_cases h : a = c
    · subst h
      simp [S]
    · simp [S, h]
theorem rp_tl (w : Str) : tl (Txt.removeprefix w minusS) = if (tl w).head? = some 45 then (tl w).drop 1 else tl w := by
  rw [StrLaws.removeprefix_eq, subAt_hd]
  by_cases h : (tl w).head? = some 45
  · simp only [h, decide_true, if_true]
    show List.take _ _ = _
    have e1 : minusS.length = 1 := rfl
    rw [e1]
    apply List.take_of_length_le
    simp [Str.length]
  · simp [h]
theorem dec128 : ∀ c : Nat, c < 128 → Unicode.isDecimal c = (decide (48 ≤ c) && decide (c ≤ 57)) := by decide +kernel
theorem decimal_iff {d : Str} (ha : ∀ c ∈ tl d, c < 128) : Txt.isdecimal d = true ↔ tl d ≠ [] ∧ AllDigits (tl d) := by
  unfold Txt.isdecimal
  obtain ⟨⟨l⟩⟩ := d
  simp only [tl, Str.length] at *
  constructor
  · intro h
    simp at h
    refine ⟨by intro e; subst e; simp at h, fun c hc => ?_⟩
    have := h.2 c hc
    rw [dec128 c (ha c hc)] at this
    simpa using this
  · rintro ⟨h1, h2⟩
    simp
    refine ⟨by cases l with | nil => exact absurd rfl h1 | cons => simp, fun c hc => ?_⟩
    rw [dec128 c (ha c hc)]
    simpa using h2 c hc
/-- the text w is that of the integer n, of twelve figures at most -/
def isN (w : Str) (n : Int) : Prop := w = dS n ∧ n.natAbs < 10 ^ 12
theorem isN_uni {w : Str} {n m : Int} (h : isN w n) (g : isN w m) : n = m := dS_inj (h.1.symm.trans g.1)
theorem ascii_dS (i : Int) : ∀ c ∈ tl (dS i), c < 128 := by
  intro c hc
  rcases dS_cases i with ⟨n, _, e⟩ | ⟨n, _, _, e⟩ <;> rw [e] at hc
  · have := numL_digits n c hc
    omega
  · rcases List.mem_cons.1 hc with rfl | hc
    · decide
    · have := numL_digits n c hc
      omega
theorem head_numL (n : Nat) : (numL n).head? ≠ some 45 := by
  intro h
  exact numL_no45 n (List.mem_of_head? h)
theorem rp_dS {n : Int} : tl (Txt.removeprefix (dS n) minusS) = numL n.natAbs := by
  rw [rp_tl]
  rcases dS_cases n with ⟨m, rfl, e⟩ | ⟨m, hm, rfl, e⟩ <;> rw [e]
  · rw [if_neg (head_numL m)]
    rfl
  · rw [if_pos (show (45 :: numL m).head? = some 45 from rfl)]
    show numL m = _
    congr 1
    omega
theorem rn_no {w : Str} (h : 12 < (Txt.removeprefix w minusS).length ∨ Txt.isdecimal (Txt.removeprefix w minusS) = false) (n : Int) : ¬ isN w n := by
  rintro ⟨rfl, hn⟩
  have hl : (numL n.natAbs).length ≤ 12 := numL_len (by decide) hn
  have e := @rp_dS n
  rcases h with h | h
  · have : (Txt.removeprefix (dS n) minusS).length = (tl (Txt.removeprefix (dS n) minusS)).length := (len_tl _).symm ▸ rfl
    rw [this, e] at h
    omega
  · have : Txt.isdecimal (Txt.removeprefix (dS n) minusS) = true := (decimal_iff (by rw [e]; intro c hc; have := numL_digits _ c hc; omega)).2 (by rw [e]; exact ⟨numL_ne _, numL_digits _⟩)
    rw [h] at this
    exact absurd this (by decide)
theorem lenT (w : Str) : w.length = (tl w).length := by simp [Str.length, tl]
theorem int_dS {n : Int} (hn : n.natAbs < 10 ^ 12) : intText? (dS n) = some n := by
  have hl : (numL n.natAbs).length ≤ 12 := numL_len (by decide) hn
  rcases dS_cases n with ⟨m, rfl, e⟩ | ⟨m, hm, rfl, e⟩
  · exact int_num (by have : (m : Int).natAbs = m := by omega
                      rw [this] at hl; omega)
  · have : (-(m : Int)).natAbs = m := by omega
    rw [this] at hl
    rw [intText_neg e (numL_digits m) (numL_ne m) (by rw [lenT, e]; simp only [List.length_cons]; omega), numL_val]
theorem rn_yes {w : Str} (ha : ∀ c ∈ tl w, c < 128) (hl : (Txt.removeprefix w minusS).length ≤ 12) (hd : Txt.isdecimal (Txt.removeprefix w minusS) = true) : ∃ n, intText? w = some n ∧ n.natAbs < 10 ^ 12 ∧ w.length ≤ 13 ∧ (∀ m, isN w m → m = n) := by
  have e := rp_tl w
  rw [lenT] at hl
  have hd := (decimal_iff (by
    rw [e]
    split
    · exact fun c hc => ha c (List.mem_of_mem_drop hc)
    · exact ha)).1 hd
  revert hl hd
  rw [e]
  by_cases h : (tl w).head? = some 45
  · rw [if_pos h]
    obtain ⟨r, hr⟩ : ∃ r, tl w = 45 :: r := by
      cases hw : tl w with
      | nil => rw [hw] at h; exact absurd h (by decide)
      | cons a r => rw [hw] at h; exact ⟨r, by rw [Option.some.inj h]⟩
    rw [hr]
    simp only [List.drop_succ_cons, List.drop_zero]
    rintro hl ⟨h1, h2⟩
    have hi := intText_neg (x := w) hr h2 h1 (by rw [lenT, hr]; simp only [List.length_cons]; omega)
    refine ⟨_, hi, ?_, by rw [lenT, hr]; simp only [List.length_cons]; omega, fun m hm => ?_⟩
    · have := val_lt 12 r h2 hl
      omega
    · rw [hm.1, int_dS hm.2] at hi
      exact Option.some.inj hi
  · rw [if_neg h]
    rintro hl ⟨h1, h2⟩
    have hi : intText? w = some ((digitsVal (tl w) : Nat) : Int) := intText_digits (x := w) h2 h1 (by rw [lenT]; omega)
    refine ⟨_, hi, ?_, by rw [lenT]; omega, fun m hm => ?_⟩
    · have := val_lt 12 _ h2 hl
      omega
    · have h3 := int_dS hm.2
      rw [← hm.1, hi] at h3
      exact (Option.some.inj h3).symm
/-- the text w is that of a number from 0 on of k figures at most -/
def isC (k : Nat) (w : Str) : Prop := ∃ n : Nat, n < 10 ^ k ∧ w = dS n
theorem cnt_yes {k : Nat} {w : Str} (hd : AllDigits (tl w)) (hne : tl w ≠ []) (hl : w.length ≤ k) (h : tl w = [48] ∨ (tl w).head? ≠ some 48) : isC k w := by
  refine ⟨digitsVal (tl w), val_lt k _ hd (by rw [← lenT]; exact hl), ext_str ?_⟩
  rw [dS_nat, numL_val_canon hd]
  exact ((canon_eq hne).2 h).symm
theorem cnt_no {k : Nat} {w : Str} (hk : 0 < k) (h : isC k w) : AllDigits (tl w) ∧ tl w ≠ [] ∧ w.length ≤ k ∧ (tl w = [48] ∨ (tl w).head? ≠ some 48) := by
  obtain ⟨n, hn, rfl⟩ := h
  rw [lenT, dS_nat]
  refine ⟨numL_digits n, numL_ne n, numL_len hk hn, (canon_eq (numL_ne n)).1 ?_⟩
  rw [← numL_val_canon (numL_digits n), numL_val]
/-- the law's bare text of head -/
def bareOf (h : Str) : Str := if (tl h).head? = some 45 then S ((tl h).drop 1) else h
theorem isN_bare {h : Str} : (isC 12 (bareOf h) ∧ h ≠ S [45, 48]) ↔ ∃ f, isN h f := by
  unfold bareOf
  constructor
  · rintro ⟨⟨n, hn, e⟩, h0⟩
    by_cases hh : (tl h).head? = some 45
    · rw [if_pos hh] at e
      obtain ⟨r, hr⟩ : ∃ r, tl h = 45 :: r := by
        cases hw : tl h with
        | nil => rw [hw] at hh; exact absurd hh (by decide)
        | cons a r => rw [hw] at hh; exact ⟨r, by rw [Option.some.inj hh]⟩
      rw [hr] at e
      have e2 : r = numL n := by
        have := congrArg tl e
        rw [dS_nat] at this
        exact this
      have n0 : 0 < n := by
        apply Nat.pos_of_ne_zero
        rintro rfl
        apply h0
        apply ext_str
        rw [hr, e2]
        rfl
      refine ⟨-(n : Int), ext_str ?_, by omega⟩
      rw [dS_neg n0, hr, e2]
    · rw [if_neg hh] at e
      exact ⟨n, e, by omega⟩
  · rintro ⟨f, rfl, hf⟩
    rcases dS_cases f with ⟨m, rfl, e⟩ | ⟨m, hm, rfl, e⟩
    · rw [if_neg (by rw [e]; exact head_numL m)]
      refine ⟨⟨m, by omega, rfl⟩, fun hx => ?_⟩
      have := congrArg tl hx
      rw [e] at this
      exact numL_no45 m (this ▸ List.mem_cons_self)
    · rw [if_pos (by rw [e]; rfl), e]
      refine ⟨⟨m, by omega, ext_str (by rw [dS_nat]; rfl)⟩, fun hx => ?_⟩
      have := congrArg tl hx
      rw [e] at this
      have h2 := (List.cons.inj this).2
      have : digitsVal (numL m) = digitsVal [48] := by rw [h2]
      rw [numL_val] at this
      have z : digitsVal [48] = 0 := rfl
      omega
end Tx1
end L2

namespace L2
namespace Tx1
open PySem PySem.NumText TL SX
/-- what a text of a stay tells -/
def okT (f n : Int) : Prop := f.natAbs < 10 ^ 12 ∧ 1 ≤ n ∧ n ≤ 400 ∧ f + n < 10 ^ 12
def txt (f n : Int) : Str := dS f ++ plusS ++ dS n
def isT (x : Str) : Prop := ∃ f n, okT f n ∧ x = txt f n
theorem plus_free (i : Int) : ¬ 43 ∈ tl (dS i) := dS_free (by decide) (by decide) i
theorem tl_txt (f n : Int) : tl (txt f n) = tl (dS f) ++ 43 :: tl (dS n) := by
  unfold txt
  rw [tl_append, tl_append]
  show _ ++ [43] ++ _ = _
  rw [List.append_assoc]
  rfl
theorem kind_plus (x : Str) : ¬ Builtin.Str.strKind x < Builtin.Str.strKind plusS := by
  have : Builtin.Str.strKind plusS = 1 := by decide +kernel
  rw [this]
  unfold Builtin.Str.strKind
  split
  · decide
  · split <;> decide
theorem split_txt (f n : Int) : Txt.split (txt f n) plusS = [dS f, dS n] := by
  apply map_tl_inj
  rw [split_spl _ _ (by decide) (kind_plus _), tl_txt]
  show spl [43] 0 [] _ = _
  have h := spl_part1 (s := 43) (S := []) (p := tl (dS f)) (rest := tl (dS n)) (acc := []) (plus_free f)
  simp only [List.singleton_append, List.nil_append] at h
  rw [h, spl_last1 (plus_free n)]
  rfl
theorem split_two {x a b : Str} (h : Txt.split x plusS = [a, b]) : x = a ++ plusS ++ b := by
  have := StrLaws.join_split x plusS
  rw [h, ← StrLaws.glued_eq_join] at this
  rw [← this]
  apply ext_str
  show (Builtin.Str.glued _ _).cps.toList = _
  rw [StrLaws.glued_list]
  rw [tl_append, tl_append]
  simp [StrLaws.glueT, StrLaws.glueL, tl]
theorem part_txt (f n : Int) : Txt.partition (txt f n) plusS = (dS f, plusS, dS n) := partition_app (s := 43) (S := []) rfl (plus_free f)
theorem part_cases (x : Str) : (¬ 43 ∈ tl x ∧ Txt.partition x plusS = (x, Str.empty, Str.empty)) ∨ (∃ h t, x = h ++ plusS ++ t ∧ Txt.partition x plusS = (h, plusS, t)) := by
  by_cases hx : 43 ∈ tl x
  · right
    obtain ⟨p, q, hp, hpq⟩ : ∃ p q, ¬ 43 ∈ p ∧ tl x = p ++ 43 :: q := by
      revert hx
      generalize tl x = l
      intro hx
      induction l with
      | nil => exact absurd hx (by simp)
      | cons a r ih =>
        by_cases ha : a = 43
        · exact ⟨[], r, by simp, by rw [ha]; rfl⟩
        · have hr : 43 ∈ r := by
            rcases List.mem_cons.1 hx with h | h
            · exact absurd h.symm ha
            · exact h
          obtain ⟨p, q, h1, h2⟩ := ih hr
          refine ⟨a :: p, q, ?_, by rw [h2]; rfl⟩
          intro hm
          rcases List.mem_cons.1 hm with h | h
          · exact ha h.symm
          · exact h1 h
    refine ⟨S p, S q, ext_str ?_, ?_⟩
    · rw [tl_append, tl_append, hpq]
      show _ = p ++ [43] ++ q
      rw [List.append_assoc]
      rfl
    · have e : x = S p ++ plusS ++ S q := ext_str (by
        rw [tl_append, tl_append, hpq]
        show _ = p ++ [43] ++ q
        rw [List.append_assoc]
        rfl)
      rw [e]
      exact partition_app (s := 43) (S := []) rfl hp
  · exact .inl ⟨hx, partition_none (s := 43) (S := []) rfl hx⟩
/-- the law's own look: what partition tells of the text -/
theorem isT_part (x : Str) : isT x ↔ ((Txt.partition x plusS).2.1 ≠ Str.empty ∧ ∃ f n, isN (Txt.partition x plusS).1 f ∧ (Txt.partition x plusS).2.2 = dS n ∧ okT f n) := by
  constructor
  · rintro ⟨f, n, ok, rfl⟩
    rw [part_txt]
    refine ⟨?_, f, n, ⟨rfl, ok.1⟩, rfl, ok⟩
    show plusS ≠ Str.empty
    decide
  · rcases part_cases x with ⟨hx, e⟩ | ⟨h, t, rfl, e⟩ <;> rw [e]
    · rintro ⟨h, _⟩
      exact absurd rfl h
    · rintro ⟨_, f, n, ⟨h1, _⟩, h2, ok⟩
      exact ⟨f, n, ok, by rw [show h = dS f from h1, show t = dS n from h2]; rfl⟩
theorem isT_split {x : Str} {a b : Str} {f n : Int} (h : Txt.split x plusS = [a, b]) (ha : isN a f) (hb : isN b n) : x = txt f n := by
  rw [split_two h, ha.1, hb.1]
  rfl
theorem txt_inj {f n g m : Int} (h : txt f n = txt g m) : f = g ∧ n = m := by
  have h := congrArg (fun x => Txt.split x plusS) h
  simp only [split_txt] at h
  exact ⟨dS_inj (List.cons.inj h).1, dS_inj (List.cons.inj (List.cons.inj h).2).1⟩
end Tx1
end L2

/-! Words of texts. -/
namespace L2
open PySem PySem.Spec PyProof.Rows Tx1
section
variable {X : Cx}
def rMRp : V → List V → Hp → VK → Prop := fun x xs H Q => ∃ a b, x = .str a ∧ xs = [.str b] ∧ a.length ≤ sizeLine ∧ Q (.str (Txt.removeprefix a b)) H
theorem m_rp : MtR X "str.removeprefix" rMRp := mt_removeprefix
def rMDec : V → List V → Hp → VK → Prop := fun x xs H Q => ∃ a, x = .str a ∧ xs = [] ∧ True ∧ Q (.bl (Txt.isdecimal a)) H
theorem m_dec : MtR X "str.isdecimal" rMDec := mt_isdecimal
def rLenS : List V → Hp → VK → Prop := fun xs H Q => ∃ a, xs = [.str a] ∧ a.length ≤ sizeLine ∧ Q (.int a.length) H
theorem c_lenS : CallR X (.builtin "len") rLenS := by
  intro pins s σ H xs us Q I r ⟨a, e, hl, q⟩
  exact call_len pins s σ H xs us Q I r ⟨.str a, a.length, e, ⟨hl, rfl⟩, q⟩
def rIntS : List V → Hp → VK → Prop := fun xs H Q => ∃ a n, xs = [.str a] ∧ intText? a = some n ∧ a.length ≤ 640 ∧ Q (.int n) H
theorem c_intS : CallR X (.type "int") rIntS := call_int_str
def rAddT : R2 := fun x y H Q => ∃ i j, x = .str i ∧ y = .str j ∧ i.length + j.length ≤ sizeLine ∧ Q (.str (i ++ j)) H
theorem op_addT : OpR X (binaryOp .Add) rAddT := op_add_str
def rNotInT : R2 := fun x y H Q => ∃ i j, x = .str i ∧ y = .str j ∧ Q (.bl !!(Builtin.Str.occurrences j i 0 j.length 1).isEmpty) H
theorem op_notInT : OpR X (compareOp .NotIn) rNotInT := op_notIn_str
def rMSplit : V → List V → Hp → VK → Prop := fun x xs H Q => ∃ a b, x = .str a ∧ xs = [.str b] ∧ (b.length == 0) = false ∧ a.length + 2 ≤ sizeLine ∧ rNewStrs (Txt.split a b) H Q
def rMPart : V → List V → Hp → VK → Prop := fun x xs H Q => ∃ a b, x = .str a ∧ xs = [.str b] ∧ (b.length == 0) = false ∧ a.length ≤ sizeLine ∧ ∀ p : Addr, H p = none → Q (.ref p) (upd H p (.tup [.str (Txt.partition a b).1, .str (Txt.partition a b).2.1, .str (Txt.partition a b).2.2]))
variable {o e : Expr} {to te : TE} {apos pos : Pos}
theorem pe_splitQ (ho : PE X o to) (he : PE X e te) (hs : starEach [e] X.env = [(false, eval e X.env)] := by rfl) (hb : attributeBase o "split" X.env (eval o X.env) = eval o X.env := by rfl) (hp : (apos.endLine == pos.line) = true := by rfl) :
    PE X (.Call (.Attribute o "split" apos) [e] [] pos) (tM1 rMSplit to te) := pe_split ho he hs hb hp
theorem pe_partQ (ho : PE X o to) (he : PE X e te) (hs : starEach [e] X.env = [(false, eval e X.env)] := by rfl) (hb : attributeBase o "partition" X.env (eval o X.env) = eval o X.env := by rfl) (hp : (apos.endLine == pos.line) = true := by rfl) :
    PE X (.Call (.Attribute o "partition" apos) [e] [] pos) (tM1 rMPart to te) := pe_partition ho he hs hb hp
def rIxZ : R2 := fun x y H Q => ∃ z i c, x = .str z ∧ y = .int i ∧ 0 ≤ i ∧ i < 2 ^ 63 ∧ i < ↑z.length ∧ z.cps[i.toNat]? = some c ∧ Q (.str { cps := #[c] }) H
theorem pe_itemZ {a b : Expr} {ta tb : TE} (ha : PE X a ta) (hb : PE X b tb) (hp : PlainIxT b) : PE X (.Subscript a b pos) (tOp rIxZ ta tb) := pe_item_str ha hb hp
end
end L2
namespace AW
open PySem PySem.Spec PyProof.Rows L2 ClX Tx1
section
variable {c : Cw} {kn : Hp} {n : Nat} {σ : L2.St} {K : PySem.W.Frag} {Q : V → Hp → Nat → Prop} {E : XK} {EA : EAK} {B : List V → Hp → AK → AXK → Prop}
theorem sz {m : Nat} (h : m ≤ 100000) : m ≤ sizeLine := Nat.le_trans h (by rw [sizeLine_eq]; decide)
theorem w_bmS {r : V → List V → Hp → VK → Prop} {to : TE} {t : TA} (h : W c (to σ) kn n fun x kn1 n1 => (∃ a, x = .str a) ∧ W c (t σ) kn1 n1 fun xs kn2 n2 => W c (r x xs) kn2 n2 Q) : W c (tBM K "str" r to t σ) kn n Q :=
  fun H g Q' q => h H g _ fun x kn1 n1 H1 ⟨⟨a, e⟩, h1⟩ g1 => ⟨by subst e; exact rfl, h1 H1 g1 _ fun xs kn2 n2 H2 h2 g2 => h2 H2 g2 Q' q⟩
theorem w_bmS0 {r : V → List V → Hp → VK → Prop} {to : TE} (h : W c (to σ) kn n fun x kn1 n1 => (∃ a, x = .str a) ∧ W c (r x []) kn1 n1 Q) : W c (tBM0 K "str" r to σ) kn n Q :=
  fun H g Q' q => h H g _ fun x kn1 n1 H1 ⟨⟨a, e⟩, h1⟩ g1 => ⟨by subst e; exact rfl, h1 H1 g1 Q' q⟩
theorem w_m1 {r : V → List V → Hp → VK → Prop} {to te : TE} (h : W c (to σ) kn n fun x kn1 n1 => (∃ a, x = .str a) ∧ W c (te σ) kn1 n1 fun y kn2 n2 => W c (r x [y]) kn2 n2 Q) : W c (tM1 r to te σ) kn n Q :=
  fun H g Q' q => h H g _ fun x kn1 n1 H1 ⟨e, h1⟩ g1 => ⟨e, h1 H1 g1 _ fun xs kn2 n2 H2 h2 g2 => h2 H2 g2 Q' q⟩
theorem r_rp {a b : Str} (hl : a.length ≤ 100000) (q : Q (.str (Txt.removeprefix a b)) kn n) : W c (rMRp (.str a) [.str b]) kn n Q := fun H g _ k => ⟨a, b, rfl, rfl, sz hl, k _ kn n H q g⟩
theorem r_dec {a : Str} (q : Q (.bl (Txt.isdecimal a)) kn n) : W c (rMDec (.str a) []) kn n Q := fun H g _ k => ⟨a, rfl, rfl, trivial, k _ kn n H q g⟩
theorem r_lenS {a : Str} (hl : a.length ≤ 100000) (q : Q (.int a.length) kn n) : W c (rLenS [.str a]) kn n Q := fun H g _ k => ⟨a, rfl, sz hl, k _ kn n H q g⟩
theorem r_intS {a : Str} {i : Int} (hi : intText? a = some i) (hl : a.length ≤ 640) (q : Q (.int i) kn n) : W c (rIntS [.str a]) kn n Q := fun H g _ k => ⟨a, i, rfl, hi, hl, k _ kn n H q g⟩
theorem r_addT {a b : Str} (hl : a.length + b.length ≤ 100000) (q : Q (.str (a ++ b)) kn n) : W c (rAddT (.str a) (.str b)) kn n Q := fun H g _ k => ⟨a, b, rfl, rfl, sz hl, k _ kn n H q g⟩
theorem r_notInT {a b : Str} (q : Q (.bl !!(Builtin.Str.occurrences b a 0 b.length 1).isEmpty) kn n) : W c (rNotInT (.str a) (.str b)) kn n Q := fun H g _ k => ⟨a, b, rfl, rfl, k _ kn n H q g⟩
theorem r_split {a b : Str} (hb : (b.length == 0) = false) (hl : a.length + 2 ≤ 100000) (q : ∀ p, kn p = none → Q (.ref p) (upd kn p (.lst ((Txt.split a b).map V.str))) n) : W c (rMSplit (.str a) [.str b]) kn n Q :=
  fun H g _ k => ⟨a, b, rfl, rfl, hb, sz hl, fun p hp => k _ _ n _ (q p (g.free hp)) (g.new hp)⟩
theorem r_part {a b : Str} (hb : (b.length == 0) = false) (hl : a.length ≤ 100000) (q : ∀ p, kn p = none → Q (.ref p) (upd kn p (.tup [.str (Txt.partition a b).1, .str (Txt.partition a b).2.1, .str (Txt.partition a b).2.2])) n) : W c (rMPart (.str a) [.str b]) kn n Q :=
  fun H g _ k => ⟨a, b, rfl, rfl, hb, sz hl, fun p hp => k _ _ n _ (q p (g.free hp)) (g.new hp)⟩
theorem r_ixZ {z : Str} {i : Int} {d : Nat} (h0 : 0 ≤ i) (h1 : i < 2 ^ 63) (h2 : i < z.length) (h3 : z.cps[i.toNat]? = some d) (q : Q (.str { cps := #[d] }) kn n) : W c (rIxZ (.str z) (.int i)) kn n Q := fun H g _ k => ⟨z, i, d, rfl, rfl, h0, h1, h2, h3, k _ kn n H q g⟩
theorem r_slS {z : Str} {lo hi : Option Int} (hl : z.length ≤ 100000) (q : Q (.str (cutS z lo hi)) kn n) : W c (rSlS (.str z) lo hi) kn n Q := fun H g _ k => ⟨z, rfl, sz hl, k _ kn n H q g⟩
/-- a classmethod -/
theorem w_cmeth {C : Addr} {ta : TE} {t : TA} (hm : MonoX B) (hE : ErrOk c EA E) (h : W c (ta σ) kn n fun x kn1 n1 => x = .ref C ∧ W c (t σ) kn1 n1 fun vs kn2 n2 => B (.ref C :: vs) kn2 (fun v k => Q v k n2) (fun cls d k => EA cls d k n2)) : W c (tCMeth C (liftX B) E ta t σ) kn n Q :=
  fun H g Q' q => h H g _ fun x kn1 n1 H1 ⟨e, h1⟩ g1 => ⟨e, h1 H1 g1 _ fun vs kn2 n2 H2 h2 g2 => sp_call hm hE h2 H2 g2 Q' q⟩
def chr1 (d : Nat) : V := .str { cps := #[d] }
theorem gives_str {a : Str} : Gives (Its a) ((TL.tl a).map chr1) fun _ => True := fun kn H e h =>
  ⟨fun i hi => by show i < a.cps.size; simpa [TL.tl] using hi, fun i hi => by show a.cps.size ≤ i; simpa [TL.tl] using hi, fun i x H' y => ⟨y.1, fun hi => by
    obtain ⟨_, d, hd, rfl⟩ := y
    rw [List.getElem?_map]
    have : (TL.tl a)[i]? = some d := by simpa [TL.tl] using hd
    rw [this]
    rfl⟩⟩
theorem i_str {te : TE} {R : It → Hp → Nat → Prop} (h : W c (te σ) kn n fun x kn1 n1 => ∃ z, x = .str z ∧ R (Its z) kn1 n1) : WI c (iStr te σ) kn n R :=
  fun H g R' q => h H g _ fun x kn1 n1 H1 ⟨z, e, hr⟩ g1 => ⟨z, e, q _ _ _ _ hr g1⟩
end
end AW

/-! Lists or tuples, also those of the written part; join, stars, lists repeated, steps of slices; what is never reached. -/
namespace L2
open PySem PySem.Spec PyProof.Rows ClX
section
variable {X : Cx}
/-- what no run comes to -/

theorem pe_never {e : Expr} : PE X e (fun _ _ _ => False) := ⟨fun _ _ _ _ _ _ h => h.elim⟩
def rRepQ : R2 := fun x y H Q => ∃ l k xs, x = .ref l ∧ y = .int k ∧ H l = some (.lst xs) ∧ -(2 ^ 63) ≤ k ∧ k < 2 ^ 63 ∧ xs.length * k.toNat ≤ sizeLine ∧ ∀ p, H p = none → Q (.ref p) (upd H p (.lst (List.replicate k.toNat xs).flatten))
theorem op_repQ : OpR X (binaryOp .Mult) rRepQ := op_rep
def rTupQ (K : PySem.W.Frag) : List V → Hp → VK → Prop := fun xs H Q => ∃ p ys, xs = [.ref p] ∧ ((SqL K H p ys ∧ ∀ l, H l = none → Q (.ref l) (upd H l (.tup ys))) ∨ (SqT K H p ys ∧ Q (.ref p) H))
theorem c_tupQ : CallR X (.type "tuple") (rTupQ X.K) := call_tuple_of
def rJoinQ (K : PySem.W.Frag) : V → List V → Hp → VK → Prop := fun x xs H Q => ∃ a p, ∃ ys : List Str, x = .str a ∧ xs = [.ref p] ∧ (SqL K H p (ys.map V.str) ∨ SqT K H p (ys.map V.str)) ∧ (ys.map (·.length)).sum + ys.length * a.length ≤ 16777216 ∧ Q (.str (Txt.join a ys)) H
theorem pe_joinQ {o e : Expr} {to te : TE} {apos pos : Pos} (ho : PE X o to) (he : PE X e te) (hs : starEach [e] X.env = [(false, eval e X.env)] := by rfl) (hb : attributeBase o "join" X.env (eval o X.env) = eval o X.env := by rfl) (hp : (apos.endLine == pos.line) = true := by rfl) :
    PE X (.Call (.Attribute o "join" apos) [e] [] pos) (tM1 (rJoinQ X.K) to te) := pe_join ho he hs hb hp
/-- the truth of a list or a tuple -/
def tTru (K : PySem.W.Frag) (ta : TE) : TT := fun σ H Q => ta σ H fun x H' => ∃ k, TruV K x H' k ∧ Q k H'
theorem pt_truthQ {a : Expr} {ta : TE} (ha : PE X a ta) (he : ∀ whole, isTrue a X.env whole = (do let v ← whole; standAt a.pos; holding [v] (truthy v))) : PT X a (tTru X.K ta) := pt_truth ha he
/-- the items at a + k, a + 2 k, .. -/
def pick3 {α : Type} (xs : List α) (lo hi st : Option Int) : List α := (sliceRange (sliceBounds lo hi st xs.length).1 (sliceBounds lo hi st xs.length).2.1 (sliceBounds lo hi st xs.length).2.2).filterMap (xs[·]?)
theorem vals_pick {xs : List V} {us : List Value} (r : Vals xs us) : ∀ is : List Nat, Vals (is.filterMap (xs[·]?)) (is.filterMap (us[·]?))
  | [] => .nil
  | i :: is => by
    rw [List.filterMap_cons, List.filterMap_cons]
    cases h : xs[i]? with
    | none => rw [r.none_of h]; exact vals_pick r is
    | some x =>
      obtain ⟨u, hu, ru⟩ := r.get h
      rw [hu]
      exact .cons ru (vals_pick r is)
theorem vals_pick3 {xs : List V} {us : List Value} (r : Vals xs us) (lo hi st : Option Int) : Vals (pick3 xs lo hi st) (slicePick us.toArray lo hi st).toList := by
  have e : (slicePick us.toArray lo hi st).toList = pick3 us lo hi st := by
    unfold slicePick pick3
    simp
  rw [e]
  unfold pick3
  rw [r.length]
  exact vals_pick r _
def tSl3 (K : PySem.W.Frag) (te : TE) (tl th : TO) (k : Int) : TE := fun σ H Q => te σ H fun x H1 => tl σ H1 fun l H2 => th σ H2 fun u H3 => ∃ a xs, x = .ref a ∧ SqL K H3 a xs ∧ ∀ p, H3 p = none → Q (.ref p) (upd H3 p (.lst (pick3 xs l u (some k))))
theorem pe_sl3 {e : Expr} {te : TE} {lo hi : Option Expr} {tl th : TO} {k : Int} {j : Nat} {p1 p2 pos : Pos} (hk : k ≠ 0) (he : PE X e te) (hl : PO X lo tl) (hu : PO X hi th) (hst : PO X (some (.Constant (.int k) j p1)) (tPart (tC (.int k)))) :
    PE X (.Subscript e (.Slice lo hi (some (.Constant (.int k) j p1)) p2) pos) (tSl3 X.K te tl th k) := by
  refine ⟨fun pins s σ H Q I h => ?_⟩
  refine Subscript_ (thn (he.run pins s σ H _ I h) fun v s1 ⟨x, H1, I1, r1, q1⟩ => ?_)
  refine wpAny_Slice (thn (hl.run pins s1 σ H1 _ I1 q1) fun vl s2 ⟨l, H2, I2, pl, q2⟩ => thn (hu.run pins s2 σ H2 _ I2 q2) fun vu s3 ⟨u, H3, I3, pu, q3⟩ => ?_)
  refine thn (hst.run pins s3 σ H3 (fun o H4 => o = some k ∧ H4 = H3) I3 ⟨k, rfl, rfl, rfl⟩) fun vs s4 ⟨o, H4, I4, ps, eo, e4⟩ => ?_
  subst eo e4
  obtain ⟨a, xs, ex, hx, q⟩ := q3
  subst ex
  cases r1
  have I5 : Inv X pins σ H4 { s4 with heap := s4.heap.push { cls := .type "slice", data := .fields #[vl, vu, vs] } } := I4.kept (t' := s4.toks) fun b ob q => Heap.get?_push_of_some _ q
  obtain ⟨its, r, ht, hz⟩ := I5.list hx
  have hlen := r.length
  show wpAny (model X.prog X.w) X.A (subscriptTail e (.Slice lo hi (some (.Constant (.int k) j p1)) p2) (.ref a) (.ref s4.heap.objs.size)) (EP X pins σ Q) X.xe { s4 with heap := s4.heap.push { cls := .type "slice", data := .fields #[vl, vu, vs] } }
  refine tail_any (ops := [.ref a, .ref s4.heap.objs.size]) ht.isList.typeIs (PySem.slot_list_getitem.lookup) ?_ (by with_unfolding_all rfl)
  have hz2 : its.toArray.size ≤ sizeLine := by rw [List.size_toArray]; omega
  refine wpAny_getItem_list_slice ht.isList (Heap.IsSliceOf.new _ vl vu vs) pl pu ps (fun z => hk (Option.some.inj z)) ?_ hz2
  refine ⟨.ref _, _, I5.laid (t' := s4.toks) (o := .lst (pick3 xs l u (some k))) (fun b ob q => Heap.get?_push_of_some _ q) (Nat.le_refl _) ?_, rfl, q _ (I5.hok.fresh (Nat.le_refl _))⟩
  have v := vals_pick3 r l u (some k)
  refine ⟨?_, (slicePick its.toArray l u (some k)).toList, 0, v, ?_⟩
  · rw [v.length, Array.length_toList]
    exact Nat.le_trans (slicePick_size_le _ _ _ _) hz2
  · rw [Array.toArray_toList]
    exact Heap.get?_push_size _ rfl
end
/-- a tuple of the written part -/
def KTup (K : PySem.W.Frag) (a : Addr) (xs : List V) : Prop := ∃ (o : Obj) (its : Array Value) (n : Nat), K.lookup a = some o ∧ o.cls = .type "tuple" ∧ o.data = .seq its n ∧ its.size ≤ sizeLine ∧ Vals xs its.toList
/-- a list or a tuple with these items -/
def SeqV (K : PySem.W.Frag) (kn : Hp) (v : V) (xs : List V) : Prop := ∃ a, v = .ref a ∧ (kn a = some (.lst xs) ∨ kn a = some (.tup xs) ∨ KTup K a xs)
theorem SeqV.ext {K : PySem.W.Frag} {kn kn' : Hp} {v : V} {xs : List V} (e : Ext kn kn') (h : SeqV K kn v xs) : SeqV K kn' v xs := by
  obtain ⟨a, rfl, h | h | h⟩ := h
  · exact ⟨a, rfl, .inl (e _ _ h)⟩
  · exact ⟨a, rfl, .inr (.inl (e _ _ h))⟩
  · exact ⟨a, rfl, .inr (.inr h)⟩
theorem SeqV.ty {K : PySem.W.Frag} {kn : Hp} {v : V} {xs : List V} (h : SeqV K kn v xs) : TyX K kn v (.type "list") ∨ TyX K kn v (.type "tuple") := by
  obtain ⟨a, rfl, h | h | ⟨o, its, n, e, c, _⟩⟩ := h
  · exact .inl (.base (.lst h))
  · exact .inr (.base (.tup h))
  · exact .inr (.kTuple e c)
end L2
namespace AW
open PySem PySem.Spec PyProof.Rows L2 ClX StX
section
variable {c : Cw} {kn : Hp} {n : Nat} {σ : L2.St} {Q : V → Hp → Nat → Prop} {QA : List V → Hp → Nat → Prop} {K : PySem.W.Frag}
theorem r_repQ {l : Addr} {xs : List V} {k : Int} (h : kn l = some (.lst xs)) (h1 : -(2 ^ 63) ≤ k) (h2 : k < 2 ^ 63) (h3 : xs.length * k.toNat ≤ 100000) (q : ∀ p, kn p = none → Q (.ref p) (upd kn p (.lst (List.replicate k.toNat xs).flatten)) n) : W c (rRepQ (.ref l) (.int k)) kn n Q :=
  fun H g _ f => ⟨l, k, xs, rfl, rfl, g.ex _ _ h, h1, h2, sz h3, fun p hp => f _ _ n _ (q p (g.free hp)) (g.new hp)⟩
theorem r_tupL {p : Addr} {xs : List V} (h : kn p = some (.lst xs)) (q : ∀ l, kn l = none → Q (.ref l) (upd kn l (.tup xs)) n) : W c (rTupQ K [.ref p]) kn n Q :=
  fun H g _ f => ⟨p, xs, rfl, .inl ⟨sql (g.ex _ _ h), fun l hl => f _ _ n _ (q l (g.free hl)) (g.new hl)⟩⟩
theorem r_joinQ {a : Str} {p : Addr} {ys : List Str} (h : kn p = some (.lst (ys.map V.str))) (hs : (ys.map (·.length)).sum + ys.length * a.length ≤ 16777216) (q : Q (.str (Txt.join a ys)) kn n) : W c (rJoinQ K (.str a) [.ref p]) kn n Q :=
  fun H g _ f => ⟨a, p, ys, rfl, rfl, .inl (sql (g.ex _ _ h)), hs, f _ kn n H q g⟩
theorem w_star {te : TE} {t : TA} (h : W c (te σ) kn n fun x kn1 n1 => ∃ p xs, x = .ref p ∧ (kn1 p = some (.lst xs) ∨ kn1 p = some (.tup xs)) ∧ W c (t σ) kn1 n1 fun ys kn2 n2 => QA (xs ++ ys) kn2 n2) : W c (tStar K te t σ) kn n QA :=
  fun H g Q' q => h H g _ fun x kn1 n1 H1 ⟨p, xs, e, hp, h1⟩ g1 => ⟨p, xs, e, hp.symm.imp (fun z => sqt (g1.ex _ _ z)) (fun z => sql (g1.ex _ _ z)), h1 H1 g1 _ fun ys kn2 n2 H2 h2 g2 => q _ _ _ _ h2 g2⟩
theorem w_sl3 {te : TE} {tl th : TO} {k : Int} (h : W c (te σ) kn n fun x kn1 n1 => W c (tl σ) kn1 n1 fun l kn2 n2 => W c (th σ) kn2 n2 fun u kn3 n3 => ∃ a xs, x = .ref a ∧ kn3 a = some (.lst xs) ∧ ∀ p, kn3 p = none → Q (.ref p) (upd kn3 p (.lst (pick3 xs l u (some k)))) n3) : W c (tSl3 K te tl th k σ) kn n Q :=
  fun H g Q' q => h H g _ fun x kn1 n1 H1 h1 g1 => h1 H1 g1 _ fun l kn2 n2 H2 h2 g2 => h2 H2 g2 _ fun u kn3 n3 H3 ⟨a, xs, e, ha, h3⟩ g3 => ⟨a, xs, e, sql (g3.ex _ _ ha), fun p hp => q _ _ _ _ (h3 p (g3.free hp)) (g3.new hp)⟩
theorem i_seq3 {i : Nat} {v : V} {xs : List V} {R : It → Hp → Nat → Prop} {kn0 : Hp} (hv : σ[i]? = some (some v)) (e0 : Ext kn0 kn) (hs : SeqV K kn0 v xs) (h : ∀ J ka, Gives J xs ka → (∀ k, Ext kn0 k → ka k) → R J kn n) : WI c (iSeq K (tVar i) σ) kn n R := by
  intro H g R' q
  obtain ⟨a, rfl, ha | ha | hk⟩ := hs
  · exact .inl (i_list (w_var hv ⟨a, xs, rfl, e0 _ _ ha, h _ _ gives_lst fun k e => e _ _ ha⟩) H g R' q)
  · exact .inr (i_tup (w_var hv ⟨a, xs, rfl, e0 _ _ ha, h _ _ gives_tup fun k e => e _ _ ha⟩) H g R' q)
  · refine .inr ⟨.ref a, hv, ⟨a, rfl, ⟨xs, .inr hk⟩, q _ _ _ _ (h (Itt K a) (fun _ => True) (fun kn H e _ => ?_) (fun _ _ => trivial)) g⟩⟩
    exact ⟨fun i hi => ⟨xs, xs[i], .inr hk, List.getElem?_eq_getElem hi⟩, fun i hi => ⟨xs, .inr hk, hi⟩, fun i x H' y => ⟨y.1, fun _ => y.2 xs (.inr hk)⟩⟩
theorem w_tru {ta : TE} {QB : Bool → Hp → Nat → Prop} (h : W c (ta σ) kn n fun x kn1 n1 => ∃ p xs, x = .ref p ∧ (kn1 p = some (.lst xs) ∨ kn1 p = some (.tup xs)) ∧ QB (!xs.isEmpty) kn1 n1) : W c (tTru K ta σ) kn n QB :=
  fun H g Q' q => h H g _ fun x kn1 n1 H1 ⟨p, xs, e, hp, hq⟩ g1 => ⟨_, by
    subst e
    rcases hp with z | z
    · exact .inl ⟨xs, sql (g1.ex _ _ z), rfl⟩
    · exact .inr (.inl ⟨xs, sqt (g1.ex _ _ z), rfl⟩), q _ _ _ _ hq g1⟩
/-- a comprehension of what changes nothing, items that are known one by one -/
theorem w_lcP {wi : TI} {gt : TG} {tt : TT} {te : TE} {vs : List Nat}
    (h : WI c (wi σ) kn n fun J kn1 n1 => ∃ (xs : List V) (ka : Hp → Prop) (f : V → V) (p : V → Bool), Gives J xs ka ∧ xs.length ≤ 100000 ∧ (∀ k, Ext kn1 k → ka k) ∧
      (∀ x ∈ xs, ∀ k, Ext kn1 k → WG c gt x (wipe σ vs) k n1 fun σ2 k2 n2 => k2 = k ∧ n2 = n1 ∧ wipe σ2 vs = wipe σ vs ∧ W c (tt σ2) k n1 fun b k3 n3 => b = p x ∧ k3 = k ∧ n3 = n1 ∧ (p x = true → W c (te σ2) k n1 fun y k4 n4 => y = f x ∧ k4 = k ∧ n4 = n1)) ∧
      ∀ D, kn1 D = none → Q (.ref D) (upd kn1 D (.lst ((xs.filter p).map f))) n1) : W c (tLc wi gt tt te vs σ) kn n Q := by
  refine w_lc (fun H g R' q => h H g R' fun J kn1 n1 H1 hJ g1 => q J kn1 n1 H1 ?_ g1)
  obtain ⟨xs, ka, f, p, hG, hl, hk, hs, hd⟩ := hJ
  have e1 : ∀ {k : Hp} {D : Addr} {o : HO}, k D = none → Ext k (upd k D o) := fun h x u e => know h e
  refine ⟨xs, ka, fun D i acc k m => m = n1 ∧ kn1 D = none ∧ acc = ((xs.take i).filter p).map f ∧ k = upd kn1 D (.lst acc), hG, hl, fun D hD => ⟨rfl, hD, by simp, rfl⟩, ?_, ?_, ?_⟩
  · rintro D i acc k m ⟨rfl, hD, rfl, rfl⟩
    refine ⟨hk _ (e1 hD), upd_same, ?_⟩
    rw [List.length_map]
    exact Nat.le_trans (List.length_filter_le _ _) (by rw [List.length_take]; exact Nat.min_le_left _ _)
  · rintro D i acc x k m hx ⟨rfl, hD, rfl, rfl⟩
    have ht : xs.take (i + 1) = xs.take i ++ [x] := by rw [List.take_add_one, hx]; rfl
    intro H g N' f'
    refine hs x (List.mem_of_getElem? hx) _ (e1 hD) H g N' fun σ2 k2 n2 H2 hq g2 => f' σ2 k2 n2 H2 ?_ g2
    obtain ⟨rfl, rfl, hw, hq⟩ := hq
    refine ⟨hw, hq.mono fun b k3 n3 hb => ?_⟩
    obtain ⟨rfl, rfl, rfl, he⟩ := hb
    refine ⟨fun hp => (he hp).mono fun y k4 n4 hy => ?_, fun hp => ⟨rfl, hD, ?_, rfl⟩⟩
    · obtain ⟨rfl, rfl, rfl⟩ := hy
      refine ⟨upd_same, rfl, hD, ?_, ?_⟩
      · rw [ht, List.filter_append, List.filter_cons_of_pos hp, List.map_append]; rfl
      · funext z
        by_cases hz : z = D
        · rw [hz, upd_same, upd_same]
        · rw [upd_ne hz, upd_ne hz, upd_ne hz]
    · rw [ht, List.filter_append, List.filter_cons_of_neg (by rw [hp]; exact Bool.false_ne_true)]
      simp
  · rintro D acc k m ⟨rfl, hD, rfl, rfl⟩
    rw [List.take_length]
    exact hd D hD
theorem w_yesT {QB : Bool → Hp → Nat → Prop} (q : QB true kn n) : W c (tYes σ) kn n QB := fun H g Q' k => k _ kn n H q g
/-- what no run comes to -/
theorem s_never {D : AE} (h : False) : WS c tNever D σ kn n := h.elim
theorem w_never {Q : V → Hp → Nat → Prop} (h : False) : W c ((fun _ _ _ => False : TE) σ) kn n Q := h.elim
end
end AW

/-! Ranges beyond 2^62. -/
namespace L2
open PySem PySem.Spec PyProof.Rows
theorem lot_int (tg : Expr) (it : Value) (i : Int) (t : Tok) : letOwnedTupleGo tg it (.int i t) = pure () := by
  cases tg <;> cases it <;> rfl
theorem iter_selfL (it : Addr) : Gives (Builtin.«dict_keyiterator.__iter__» { pos := [Value.ref it] }) (.val (.ref it)) := by
  intro prog w A R s h
  unfold Builtin.«dict_keyiterator.__iter__»
  refine wpAny_bind (wpAny_of_eq (a := ((Value.ref it : Value), ([] : List Value))) (by first | rfl | (simp only [slotArgs]; rfl)) ?_)
  exact wpAny_pure h
theorem pyIter_long {P : Program} {w : World} {A : Around} {E : Value → Shared → Prop} {s : Shared} {it : Addr} {x left step : Int} {Q : Value → Shared → Prop} (h : IsLongIter s.heap it x left step) (q : Q (.ref it) s) : wpAny (model P w) A (pyIter (.ref it)) Q E s := by
  have ty : s.TypeIs (.ref it) "longrange_iterator" := ⟨_, h, rfl⟩
  unfold pyIter
  refine wpAny_bind (wpAny_specialOf ty F.slot_longrange_iterator_iter.lookup ?_)
  dsimp only
  refine wpAny_bind (wpAny_callSpecialIfBoundUnlessNone?_slot ty F.slot_longrange_iterator_iter (call_gives F.slot_longrange_iterator_iter ty F.entry_longrange_iterator_iter (F.args_longrange_iterator_iter_1 _) (iter_selfL it) ?_))
  show wpAny _ _ _ _ _ _
  refine wpAny_bind (wpAny_specialOf ty F.slot_longrange_iterator_next.lookup ?_)
  exact wpAny_pure q
theorem turn_long {P : Program} {w : World} {K : PySem.W.Frag} {tg : Expr} (lo : Int) (n : Nat) (it : Addr) : Turn P w K tg (Itr lo n) [it] it (fun i h => i ≤ n ∧ IsLongIter h it (lo + (i : Int) * 1) ((n : Int) - i) 1) := by
  refine ⟨.head _, fun i h e b hb => ?_, fun i h h' e k => ?_, ?_, ?_, ?_⟩
  · rw [List.mem_singleton.1 hb]
    exact ⟨_, e.2, fun v z => nomatch z⟩
  · exact ⟨e.1, k it (.head _) _ e.2⟩
  · intro X hP hw hK hc i pins s σ H E I fp tn go
    subst hP hw hK
    have W := Walks.longrange (prog := X.prog) (w := X.w) (I.ok.hd hc) it lo 1 n
    refine W.item i s _ E go tn.2 fun v h' tk hv hs keep => ?_
    obtain ⟨t, rfl⟩ := hv
    refine ⟨_, rfl, ?_⟩
    rw [lot_int]
    obtain ⟨f1, f2, f3, f4, f5, f6⟩ := fp it (.head _)
    have go : i < n := go
    refine wpAny_pure ⟨.int (lo + i), H, I.turned (fun b o hb e => keep b o (by simp [hb]) e) f1 f2 f4 f5 f6, ?_, ⟨rfl, rfl⟩, ⟨go, hs⟩, fun b hb => by rw [List.mem_singleton.1 hb]; exact f1⟩
    exact ⟨t, by rw [Int.mul_one]⟩
  · intro X hP hw hK hc i pins s σ H E I fp tn st
    subst hP hw hK
    have W := Walks.longrange (prog := X.prog) (w := X.w) (I.ok.hd hc) it lo 1 n
    have st : n ≤ i := st
    obtain rfl : i = n := Nat.le_antisymm tn.1 st
    obtain ⟨f1, f2, f3, f4, f5, f6⟩ := fp it (.head _)
    exact W.done s _ E tn.2 fun h' tk keep => ⟨rfl, I.turned (fun b o hb e => keep b o (by simp [hb]) e) f1 f2 f4 f5 f6⟩
  · intro A i s Q E tn q
    exact pyIter_long tn.2 q
theorem size_1 (a b : Int) : Builtin.Range.rangeSize a b 1 = (((b - a).toNat : Nat) : Int) := by
  unfold Builtin.Range.rangeSize
  rw [if_pos (by decide)]
  split
  · rw [Int.ediv_one]
    omega
  · omega
/-- a range with any ends -/
def iRgA (tr : St → Hp → (Int → Int → Hp → Prop) → Prop) : TI := fun σ H R => tr σ H fun a b H1 => R (Itr a (b - a).toNat) H1
theorem pi_rangeA {X : Cx} {tg e : Expr} {tr : St → Hp → (Int → Int → Hp → Prop) → Prop} (he : PRg X e tr) : PI X tg e (iRgA tr) := by
  refine ⟨fun pins s σ H R I h => ?_⟩
  refine thn (he pins s σ H _ I h) fun x s1 ⟨r, a, b, t, u, v, H', ex, hr, I1, q⟩ => ?_
  subst ex
  have fp := I1.fpOk (b := s1.heap.objs.size) (Nat.le_refl _) (I1.hok.fresh (Nat.le_refl _))
  cases hs : Builtin.Range.small a b 1 with
  | true =>
    refine wpAny_pyIter_range hr hs ?_
    refine ⟨s1.heap.objs.size, [s1.heap.objs.size], _, Itr a (b - a).toNat, H', rfl, I1.kept (t' := s1.toks) fun c o e => Heap.get?_push_of_some _ e, turn_range s1.heap.objs.size a (b - a).toNat, ?_, fun c hc => by rw [List.mem_singleton.1 hc]; exact fp, q⟩
    show IsRangeIter _ _ _ _ _
    rw [size_1]
    have e1 : a + ((0 : Nat) : Int) * 1 = a := by omega
    have e2 : (((b - a).toNat : Nat) : Int) - ((0 : Nat) : Int) = (((b - a).toNat : Nat) : Int) := by omega
    rw [e1, e2]
    exact Heap.get?_push_size _ rfl
  | false =>
    refine wpAny_pyIter_longrange hr hs ?_
    refine ⟨s1.heap.objs.size, [s1.heap.objs.size], _, Itr a (b - a).toNat, H', rfl, I1.kept (t' := s1.toks) fun c o e => Heap.get?_push_of_some _ e, turn_long a (b - a).toNat s1.heap.objs.size, ⟨Nat.zero_le _, ?_⟩, fun c hc => by rw [List.mem_singleton.1 hc]; exact fp, q⟩
    show IsLongIter _ _ _ _ _
    rw [size_1]
    have e1 : a + ((0 : Nat) : Int) * 1 = a := by omega
    have e2 : (((b - a).toNat : Nat) : Int) - ((0 : Nat) : Int) = (((b - a).toNat : Nat) : Int) := by omega
    rw [e1, e2]
    exact Heap.get?_push_size _ rfl
end L2
namespace AW
open PySem PySem.Spec L2
theorem i_rgA {c : Cw} {kn : Hp} {n : Nat} {σ : L2.St} {ta tb : TE} {R : It → Hp → Nat → Prop} (h : W c (ta σ) kn n fun x kn1 n1 => W c (tb σ) kn1 n1 fun y kn2 n2 => ∃ i j, x = .int i ∧ y = .int j ∧ R (Itr i (j - i).toNat) kn2 n2) : WI c (iRgA (tRg2 ta tb) σ) kn n R :=
  fun H g R' q => h H g _ fun x kn1 n1 H1 h1 g1 => h1 H1 g1 _ fun y kn2 n2 H2 ⟨i, j, ex, ey, hr⟩ g2 => ⟨i, j, ex, ey, q _ _ _ _ hr g2⟩
end AW

/-! Tuples and lists of the same things compared: also of things that are no data. -/
namespace L2
open PySem PySem.Spec PyProof.Rows
theorem eqAt_ref {A : Around} {s : Shared} (a : Addr) : SeqAt.EqAt A s (.ref a) (.ref a) true := by
  intro prog w E Q q
  unfold eqBool
  refine wpAny_holding ?_
  rw [if_pos (by simp)]
  exact wpAny_bind (wpAny_rule (wpAny_pure q))
def plainV : V → Bool
  | .ref _ => true
  | v => flatB v
theorem eqAt_plain {A : Around} {s : Shared} {v : V} {u u' : Value} (r : RelV v u) (r' : RelV v u') (h : plainV v = true) : SeqAt.EqAt A s u u' true := by
  cases v with
  | ref a =>
    cases (show u = Value.ref a from r)
    cases (show u' = Value.ref a from r')
    exact eqAt_ref a
  | _ => exact eqAt_same r r' h
def rEqS (K : PySem.W.Frag) (neg : Bool) : R2 := fun x y H Q => ∃ p q xs, x = .ref p ∧ y = .ref q ∧ ((SqT K H p xs ∧ SqT K H q xs)) ∧ (∀ v ∈ xs, plainV v = true) ∧ Q (.bl (!neg)) H
section
variable {X : Cx}
theorem op_eqS (hu : X.A.units < cLine) : OpR X (compareOp .Eq) (rEqS X.K false) := by
  intro pins s σ H x y v u Q I rx ry h
  obtain ⟨p, q, xs, rfl, rfl, ⟨h1, h2⟩, hf, hq⟩ := h
  cases rx
  cases ry
  obtain ⟨its, v1, T1, z1⟩ := I.tuple h1
  obtain ⟨its2, v2, T2, z2⟩ := I.tuple h2
  obtain ⟨⟨c1, dd1, da1, sl1⟩, g1, rfl, n1, rfl⟩ := T1
  obtain ⟨⟨c2, dd2, da2, sl2⟩, g2, rfl, n2, rfl⟩ := T2
  have l1 := v1.length
  have l2 := v2.length
  show wpAny _ _ (richCompare .Eq (.ref p) (.ref q)) _ _ _
  refine wpAny_richCompare_same_or (T := "tuple") ⟨_, g1, rfl⟩ ⟨_, g2, rfl⟩ F.slot_tuple_eq ?_ (.inr hu)
  refine call_meets F.slot_tuple_eq ⟨_, g1, rfl⟩ F.entry_tuple_eq (F.args_tuple_eq_2 _ _) (SeqAt.tuple_eqAt p q its.toArray its2.toArray n1 n2 dd1 dd2 sl1 sl2 fun _ => true) ⟨g1, g2, fun j k1 k2 => ?_, ?_⟩
  · rw [List.size_toArray] at k1 k2
    have hx : j < xs.length := by omega
    obtain ⟨u1, e1, r1⟩ := v1.get (List.getElem?_eq_getElem hx)
    obtain ⟨u2, e2, r2⟩ := v2.get (List.getElem?_eq_getElem hx)
    rw [List.getElem?_eq_getElem k1] at e1
    rw [List.getElem?_eq_getElem k2] at e2
    cases e1
    cases e2
    exact eqAt_plain r1 r2 (hf _ (List.getElem_mem hx))
  · have e : ((List.range (min its.toArray.size its2.toArray.size)).all (fun _ => true) && its.toArray.size == its2.toArray.size) = true := by
      rw [List.size_toArray, List.size_toArray, ← l1, ← l2]
      simp
    rw [e]
    exact ⟨(fun z => nomatch z), ⟨.bl true, H, I, rfl, hq⟩⟩
end
end L2
namespace AW
open PySem PySem.Spec L2
theorem r_eqS {c : Cw} {kn : Hp} {n : Nat} {Q : V → Hp → Nat → Prop} {K : PySem.W.Frag} {p q : Addr} {xs : List V} (h1 : kn p = some (.tup xs)) (h2 : kn q = some (.tup xs)) (hf : ∀ v ∈ xs, plainV v = true) (k : Q (.bl true) kn n) : W c (rEqS K false (.ref p) (.ref q)) kn n Q :=
  fun H g _ z => ⟨p, q, xs, rfl, rfl, ⟨sqt (g.ex _ _ h1), sqt (g.ex _ _ h2)⟩, hf, z _ kn n H k g⟩
end AW

/-! bool of a tuple, repr of a number or None, a dict of one entry. -/
namespace L2
open PySem PySem.Spec PyProof.Rows
section
variable {X : Cx}
def rBoolT (K : PySem.W.Frag) : List V → Hp → VK → Prop := fun xs H Q => ∃ (a : Addr) (zs : List V), xs = [.ref a] ∧ SqT K H a zs ∧ Q (.bl (!zs.isEmpty)) H
theorem c_boolT : CallR X (.type "bool") (rBoolT X.K) := by
  intro pins s σ H xs us Q I r h
  obtain ⟨a, zs, rfl, hq, q⟩ := h
  obtain ⟨u, rfl, rx⟩ := vals1 r
  cases (show u = Value.ref a from rx)
  obtain ⟨its, rv, pl, hz⟩ := I.tuple hq
  have hl := line63
  have hlen := rv.length
  refine callType_newIn PySem.F.called_bool PySem.F.newNe_bool (PySem.F.typeCall_bool_1 _) (PySem.F.newCall_bool_1 _) (fun obj => PySem.F.args_object_init_2 obj _) PySem.F.entry_bool_new bool_new_own ?_
  refine truthy_tuple pl (by simp only [List.size_toArray]; omega) ?_
  refine ⟨PySem.typeIs_bool _ _, .bl (!zs.isEmpty), H, I.tok _, ?_, q⟩
  rw [isEmpty_of rv]
  rfl
def rReprS : List V → Hp → VK → Prop := fun xs H Q => (∃ i : Int, xs = [.int i] ∧ i.natAbs.log2 < 1920 ∧ Q (.str (toString i)) H) ∨ (xs = [.non] ∧ Q (.str "None") H)
theorem c_reprS : CallR X (.builtin "repr") rReprS := by
  intro pins s σ H xs us Q I r h
  rcases h with ⟨i, rfl, hz, q⟩ | ⟨rfl, q⟩
  · obtain ⟨u, rfl, t, rfl⟩ := vals1 r
    exact PySem.P.repr_of_int hz ⟨.str _, H, I.tok _, ⟨_, rfl⟩, q⟩
  · obtain ⟨u, rfl, rx⟩ := vals1 r
    cases (show u = Value.none from rx)
    exact PySem.P.repr_of_none ⟨.str "None", H, I.tok _, ⟨_, rfl⟩, q⟩
end
end L2
namespace AW
open PySem PySem.Spec L2
section
variable {K : PySem.W.Frag} {c : Cw} {kn : Hp} {n : Nat} {σ : L2.St} {Q : V → Hp → Nat → Prop}
theorem r_boolT {p : Addr} {xs : List V} (h : kn p = some (.tup xs)) (q : Q (.bl (!xs.isEmpty)) kn n) : W c (rBoolT K [.ref p]) kn n Q := fun H g _ k => ⟨p, xs, rfl, sqt (g.ex _ _ h), k _ kn n H q g⟩
def reprV : V → Str
  | .int i => Str.ofString (toString i)
  | _ => Str.ofString "None"
theorem r_reprS {v : V} (hv : (∃ i : Int, v = .int i ∧ i.natAbs.log2 < 1920) ∨ v = .non) (q : Q (.str (reprV v)) kn n) : W c (rReprS [v]) kn n Q := fun H g _ k => by
  rcases hv with ⟨i, rfl, hi⟩ | rfl
  · exact .inl ⟨i, rfl, hi, k _ kn n H q g⟩
  · exact .inr ⟨rfl, k _ kn n H q g⟩
/-- {k: v} -/
theorem w_dict1 {tk tv : TE} (h : ∀ p, kn p = none → W c (tk σ) (upd kn p (.dK [])) n fun x kn1 n1 => W c (tv σ) kn1 n1 fun y kn2 n2 => ∃ k, x = kV k ∧ kn2 p = some (.dK []) ∧ Q (.ref p) (upd kn2 p (.dK (mergeK [] [(k, y)]))) n2) : W c (tDisp [(tk, tv)] σ) kn n Q :=
  fun H g Q' q => fun p hp => h p (g.free hp) _ (g.new hp) _ fun x kn1 n1 H1 h1 g1 => h1 H1 g1 _ fun y kn2 n2 H2 ⟨k, e, hd, h2⟩ g2 => ⟨g2.ex _ _ hd, [(k, y)], by rw [e]; rfl, (show 1 ≤ 15 by decide), q _ _ _ _ h2 (g2.put hd rfl)⟩
end
end AW

/-! Own errors made: as values, and in a raise whose error may be caught and followed by another. -/
namespace L2
open PySem PySem.Spec PyProof.Rows
theorem Fun.okXN {P : Program} {w : World} {K : PySem.W.Frag} {mg : Str → Option Value} {base : Heap} {x qual : Str} {st : Stmt} {f : Addr} {fd : FuncData} {N ps : List Str} {k : Nat} {sp : Sp} (F : Fun K x qual st f fd) (S : FnScope N ps (defScope st)) (len : ∀ vs H Q E, sp vs H Q E → vs.length = ps.length)
    (hbody : ∀ (cdv : Value) (A : Around) (outer : List Env) (s : Shared) (H : Hp) (vs : List V) (Q : VK) (E : XK), Room k (A.deeper (envOfC qual (defScope st) s.heap.objs.size f cdv)) → sp vs H Q E →
      ∃ t, PSs (cxOf (L2N.CX P w) P w K mg base N qual (defScope st) f cdv A outer s H E) (defBody st) t ∧ t { nx := fun _ H' => Q .non H', rt := Q } (start N vs) H) : FnOk P w K mg base (L2N.CX P w) (k + 1) f fd ps sp := by
  obtain ⟨oc, od, kV, doc, pm, an, cdv, ct, osl, rfl, lk, hcd⟩ := F.ex
  exact ⟨len, fun A outer s H args us vs Q E hr e0 hb r hsp => LamX.run_ofS lk hcd S hr e0 hb r (len _ _ _ _ hsp) fun hr' => hbody cdv A outer s H vs Q E hr' hsp⟩
theorem passLN {X : Cx} : Passes (L2N.CX X.prog X.w) X E0 := fun pins σ H s e s' _ h => by
  obtain ⟨a, B, H', cls, d, _, _, _, _, _, _, _, z⟩ := h
  exact z.elim
section
variable {X : Cx} {CX : CXT} {k : Nat} {C fI : Addr} {fd : FuncData} {ps : List Str} {sp : Sp} {ds : List Value} {dvs : List V} {pins : List (Addr × Obj)} {σ : St} {H : Hp} {s : Shared} {us : List Value} {vs : List V}
theorem oex_core (T : OexC X.K C) (iC : PySem.W.findIn X.K (.ref C) "__init__" = some (some (.ref fI))) (tI : PySem.W.typeIn X.K (.ref fI) = some (.type "function")) (F : FnOk X.prog X.w X.K X.mg X.base CX k fI fd ps sp) (hr : Room (k + 1) X.A) (hb : Binds X.K fd ps ds) (hd : Vals dvs ds)
    (hx : Passes CX X (fun _ _ _ => False)) (I : Inv X pins σ H s) (rv : Vals vs us) (hl : vs.length ≤ 1000) {QQ : Addr → Hp → Prop} {R : Value → Shared → Prop}
    (hsp : ∀ a, H a = none → sp (.ref a :: (vs ++ dvs)) (upd H a (exo a C none)) (fun v H2 => v = .non ∧ QQ a H2) (fun _ _ _ => False))
    (fin : ∀ (a : Addr) (s2 s' : Shared) (H2 : Hp), H a = none → s.heap.objs.size ≤ a → (∀ b o, s.heap.get? b = some o → s2.heap.get? b = some o) → Inv X pins σ (upd H a (exo a C none)) s2 → s2.os = s.os →
      s'.os = s2.os → AllBare s'.gens → Un (frs X.stack) [] (upd H a (exo a C none)) H2 s2.heap s'.heap → HOk X.prog X.w H2 s'.heap → QQ a H2 → R (.ref a) s') :
    wpAny (model X.prog X.w) X.A (call (.ref C) us) R X.xe s := by
  obtain ⟨hp, g, d, t, os⟩ := s
  obtain ⟨nm, q, N, bs, bm, sn, sub, ab, col, dd, k0, k1, k2, k3, k5, lk, hbm⟩ := T.cls
  have hlu : us.length ≤ 1000 := by rw [← rv.length]; exact hl
  have keeps : ∀ b o, hp.get? b = some o → ((hp.push (PySem.W.kdv_tup us)).push (HandSPX.excO C hp.objs.size)).get? b = some o := fun b o e => Heap.get?_push_of_some _ (Heap.get?_push_of_some _ e)
  have hn : H (hp.objs.size + 1) = none := I.hok.fresh (Nat.le_succ _)
  have hsz : (hp.push (PySem.W.kdv_tup us)).objs.size = hp.objs.size + 1 := by simp [Heap.push]
  have I2 : Inv X pins σ (upd H (hp.objs.size + 1) (exo (hp.objs.size + 1) C none)) ⟨(hp.push (PySem.W.kdv_tup us)).push (HandSPX.excO C hp.objs.size), g, d, t, os⟩ :=
    I.laid (t' := t) keeps (Nat.le_succ _) (exo_ok (t1 := hp.objs.size) (by rw [← hsz]; exact Heap.get?_push_size _ rfl))
  refine wpAny_call ?_
  refine HandSPX.call_own PySem.F.excBase_ValueError (fun Y => HandSPX.refsVE_contains Y _ hbm) (I.kIn _ _ lk) (PySem.W.looks_findIn I.kIn iC) (fun self => PySem.W.bind_fn I.kIn self tI) (Nat.le_trans hlu (by rw [sizeLine_eq]; decide)) ?_
  have rr : Vals (V.ref (hp.objs.size + 1) :: (vs ++ dvs)) (Value.ref (hp.objs.size + 1) :: us ++ ds) := .cons rfl (rv.append hd)
  have hlen : (Value.ref (hp.objs.size + 1) :: us ++ ds).length = ps.length := by rw [← rr.length]; exact F.len _ _ _ _ (hsp _ hn)
  have e2 := I2.env0
  refine codeAny_mono (F.run (X.A.under (.builtin "type.__call__" { pos := .ref C :: us })) X.stack _ _ ⟨.ref (hp.objs.size + 1) :: us, []⟩ (.ref (hp.objs.size + 1) :: us ++ ds) (.ref (hp.objs.size + 1) :: (vs ++ dvs)) _ _ (hr.make C us []) ⟨e2.frames, e2.mod, e2.bs, e2.bsz, e2.funs, e2.frf, e2.hok, e2.bare⟩ (hb _ (.ref (hp.objs.size + 1) :: us) I2.kIn hlen) rr (hsp _ hn)) fun r s' hq => ?_
  cases r with
  | error e => exact hx pins σ _ _ e s' I2 hq
  | ok fl =>
    cases fl with
    | ret u =>
      obtain ⟨v, H2, os', bare, un, hok, rel, ev, q⟩ := hq
      subst ev
      exact ⟨rel, fin _ _ _ _ hn (Nat.le_succ _) keeps I2 rfl os' bare un hok q⟩
    | next => exact False.elim hq
    | brk => exact False.elim hq
    | cont => exact False.elim hq
variable {x : Str} {e : Expr} {es : List Expr} {ta : TA} {p pos : Pos}
/-- an own error made, as a value -/
def tMkV (C : Addr) (sp : Sp) (dvs : List V) (ta : TA) : TE := fun σ H Q => ta σ H fun vs H1 => vs.length ≤ 1000 ∧ ∀ a, H1 a = none → sp (.ref a :: (vs ++ dvs)) (upd H1 a (exo a C none)) (fun v H2 => v = .non ∧ Q (.ref a) H2) (fun _ _ _ => False)
theorem pe_oexV (T : OexC X.K C) (iC : PySem.W.findIn X.K (.ref C) "__init__" = some (some (.ref fI))) (tI : PySem.W.typeIn X.K (.ref fI) = some (.type "function")) (F : FnOk X.prog X.w X.K X.mg X.base CX k fI fd ps sp) (hr : Room (k + 1) X.A) (hb : Binds X.K fd ps ds) (hd : Vals dvs ds)
    (hx : Passes CX X (fun _ _ _ => False)) (hg : Gl X x) (hm : X.mg x = some (.ref C)) (ha : PA X (e :: es) ta) (hdb : (x == ("__debug__" : Str)) = false := by decide) (he : starEach (e :: es) X.env = (false, eval e X.env) :: starEach es X.env := by rfl) (hpl : (backTo pos (starEach es X.env)).any (·.1) = false := by rfl) :
    PE X (.Call (.Name x p) (e :: es) [] pos) (tMkV C sp dvs ta) := by
  refine ⟨fun pins s σ H Q I h => wpAny_Call_Name_kw (ld_glob I hg hm ?_ hdb)⟩
  refine PySem.W.callWith_K (h₀ := X.base) I.ok.mod.kin T.kC (thn (ha.run pos pins s σ H _ I h) fun us s1 ⟨vs, H1, I1, r, hl, q⟩ => ⟨I1.kIn, ?_⟩) he hpl
  refine oex_core T iC tI F hr hb hd hx I1 r hl (QQ := fun a H2 => Q (.ref a) H2) q fun a s2 s' H2 hn hs kp I2 os2 os' bare un hok hq => ?_
  exact I2.after ⟨.ref a, H2, os', bare, un, hok, rfl, hq⟩
theorem pmkN_oex (T : OexC X.K C) (iC : PySem.W.findIn X.K (.ref C) "__init__" = some (some (.ref fI))) (tI : PySem.W.typeIn X.K (.ref fI) = some (.type "function")) (F : FnOk X.prog X.w X.K X.mg X.base CX k fI fd ps sp) (hr : Room (k + 1) X.A) (hb : Binds X.K fd ps ds) (hd : Vals dvs ds)
    (hx : Passes CX X (fun _ _ _ => False)) (hg : Gl X x) (hm : X.mg x = some (.ref C)) (ha : PA X (e :: es) ta) (hdb : (x == ("__debug__" : Str)) = false := by decide) (he : starEach (e :: es) X.env = (false, eval e X.env) :: starEach es X.env := by rfl) (hpl : (backTo pos (starEach es X.env)).any (·.1) = false := by rfl) :
    L2N.PMk X (.Call (.Name x p) (e :: es) [] pos) (tMkO C sp dvs ta) := by
  intro pins s σ H Q I h
  refine wpAny_Call_Name_kw (ld_glob I hg hm ?_ hdb)
  refine PySem.W.callWith_K (h₀ := X.base) I.ok.mod.kin T.kC (thn (ha.run pos pins s σ H _ I h) fun us s1 ⟨vs, H1, I1, r, hl, q⟩ => ⟨I1.kIn, ?_⟩) he hpl
  refine oex_core T iC tI F hr hb hd hx I1 r hl (QQ := fun a H2 => ∃ d fs, H2 a = some (exo a C (some d)) ∧ H2 d = some (exd d fs) ∧ H1 d = none ∧ Q (.ref C) (some d) (upd (del H2 a) d (.xd fs))) q fun a s2 s' H2 hn hs kp I2 os2 os' bare un hok hq => ?_
  obtain ⟨d, fs, h1, h2, h3, hq⟩ := hq
  obtain ⟨hp, g1, d1, t1, os1⟩ := s1
  obtain ⟨hp2, g2, d2, t2, osx⟩ := s2
  obtain ⟨h', g', d', t', os3⟩ := s'
  obtain ⟨t0, G, IG, kG, nG, gG, nH⟩ := mk_end0 I1 hs kp un hok (os'.trans os2) bare h1 h2 h3
  refine ⟨a, _, _, ⟨G, g', d', t', os3⟩, _, _, _, rfl, IG, kG, nG, gG, ⟨rfl, rfl, fun vs hv => ?_⟩, rfl, rfl, nH, rfl, bare, ?_, hq⟩
  · cases hv
    rfl
  · exact raises_own T.exC T.tyC
end
end L2
namespace AW
open L2
theorem takesN_len {X : Cx} {W : WX} {m : Nat} (tk : L2N.Takes X W) (h : X.N.length = m := by rfl) : L2N.Takes X (fun cls d σ H => σ.length = m → W cls d σ H) :=
  fun u s' ⟨a, B, sI, pins, σ, H, cls, d, e, I, nb, up, sky, na, os, ag, w⟩ => tk u s' ⟨a, B, sI, pins, σ, H, cls, d, e, I, nb, up, sky, na, os, ag, w (I.len.trans h)⟩
end AW

/-! <=, <, >=, > and ~ of an own class; math.lcm. -/
namespace L2
open PySem PySem.Spec PyProof.Rows
section
variable {X : Cx} {CX : CXT} {k : Nat} {f C : Addr} {fd : FuncData} {ps : List Str} {sp : Sp} {E : XK}
structure CmpM (K : PySem.W.Frag) (op : CmpOp) (C f : Addr) : Prop where
  hs : PySem.W.findIn K (.ref C) (cmpInfo op).2.1 = some (some (.ref f))
  hf : PySem.W.isFn K (.ref f) = true
def rCmpO (K : PySem.W.Frag) (C : Addr) (sp : Sp) (E : XK) : R2 := fun x y H Q => ∃ a dx fs t, x = .ref a ∧ H a = some (.ins C dx fs) ∧ TyX K H y t ∧ PySem.W.notFirst K C t = true ∧ sp [.ref a, y] H Q E
theorem op_cmpO {op : CmpOp} (hop : ∀ a b, compareOp op a b = richCompare op a b) (M : CmpM X.K op C f) (F : FnOk X.prog X.w X.K X.mg X.base CX k f fd ps sp) (hr : Room (k + 1) X.A) (hb : Binds X.K fd ps []) (hx : Passes CX X E) : OpR X (compareOp op) (rCmpO X.K C sp E) := by
  intro pins s σ H x y v u Q I rx ry h
  obtain ⟨a, dx, fs, t, rfl, ha, ty, nf, hq⟩ := h
  cases rx
  obtain ⟨mA, J, _⟩ := ins_get I.hok ha
  obtain ⟨od, J, _⟩ := J.look
  have hbt := typeOf_of I ry ty
  obtain ⟨m, hF⟩ := I.fr
  rw [hop]
  refine PySem.W.cmp_K (op := op) hr.units0 hF I.ok.mod.kin J hbt nf M.hs M.hf ?_
  exact wpAny_mono (callA (vs := [.ref a, y]) F (hr.mono (Nat.le_succ _)) rfl hb hx I (.cons rfl (.cons ry .nil)) hq) (fun z s' hz => by
    obtain ⟨v', H', I', rv, q⟩ := id hz
    exact relV_ni rv hz) fun _ _ z => z
def rUnO (C : Addr) (sp : Sp) (E : XK) : V → Hp → VK → Prop := fun x H Q => ∃ a dx fs, x = .ref a ∧ H a = some (.ins C dx fs) ∧ sp [.ref a] H Q E
theorem un_invO (hs : PySem.W.findIn X.K (.ref C) "__invert__" = some (some (.ref f))) (hf : PySem.W.isFn X.K (.ref f) = true) (F : FnOk X.prog X.w X.K X.mg X.base CX k f fd ps sp) (hr : Room k X.A) (hb : Binds X.K fd ps []) (hx : Passes CX X E) : UnR X (unaryOp .Invert) (rUnO C sp E) := by
  intro pins s σ H x v Q I rx h
  obtain ⟨a, dx, fs, rfl, ha, hq⟩ := h
  cases rx
  obtain ⟨mA, J, _⟩ := ins_get I.hok ha
  obtain ⟨od, J, _⟩ := J.look
  unfold unaryOp
  refine wpAny_holding ?_
  dsimp only
  simp only [show ((UnaryOp.Invert == UnaryOp.Not)) = false from rfl, Bool.false_eq_true, if_false]
  refine wpAny_bind (PySem.W.special_fn I.kIn J hs (beq_iff_eq.mp hf) ?_)
  refine wpAny_mono (callA (vs := [.ref a]) F hr rfl hb hx I (.cons rfl .nil) hq) (fun z s' hz => ?_) fun _ _ z => z
  exact wpAny_pure hz
/-- math.lcm of two small numbers -/
def rLcm : List V → Hp → VK → Prop := fun vs H Q => ∃ a b : Nat, vs = [.int a, .int b] ∧ a ≤ 1000000 ∧ b ≤ 1000000 ∧ Q (.int (Nat.lcm a b : Nat)) H
theorem lcm_small {a b : Nat} (ha : a ≤ 1000000) (hb : b ≤ 1000000) : Nat.lcm a b ≤ 1000000000000 := by
  unfold Nat.lcm
  exact Nat.le_trans (Nat.div_le_self _ _) (Nat.le_trans (Nat.mul_le_mul ha hb) (by decide))
theorem cr_lcm : CallR X (.builtin "math.lcm") rLcm := by
  intro pins s σ H xs us Q I r h
  obtain ⟨a, b, rfl, ha, hb, q⟩ := h
  rcases r with _ | ⟨r1, r⟩
  rcases r with _ | ⟨r2, r⟩
  rcases r with _ | _
  obtain ⟨t1, rfl⟩ := r1
  obtain ⟨t2, rfl⟩ := r2
  have e : (Nat.lcm 1 ((a : Nat) : Int).natAbs).lcm ((b : Nat) : Int).natAbs = Nat.lcm a b := by
    rw [Int.natAbs_natCast, Int.natAbs_natCast, Nat.lcm_one_left]
  have hs := lcm_small ha hb
  refine PySem.W.mg_lcm (by omega) (by omega) ?_ ?_
  · rw [e, Int.natAbs_natCast]
    by_cases z : Nat.lcm a b = 0
    · rw [z]
      decide
    · exact Nat.lt_trans ((Nat.log2_lt z).mpr (show _ < 2 ^ 40 by omega)) (by decide)
  · rw [e]
    exact ⟨.int (Nat.lcm a b : Nat), H, I.tok _, ⟨_, rfl⟩, q⟩
end
end L2
namespace AW
open PySem PySem.Spec L2
section
variable {c : Cw} {kn : Hp} {n : Nat} {σ : L2.St} {Q : V → Hp → Nat → Prop} {K : PySem.W.Frag} {B : List V → Hp → AK → AXK → Prop} {E : XK} {EA : EAK}
theorem r_cmpO {C a dx : Addr} {fs : List (Str × V)} {y : V} {t : Value} (hm : MonoX B) (hE : ErrOk c EA E) (ha : kn a = some (.ins C dx fs)) (ty : TyX K kn y t) (nf : PySem.W.notFirst K C t = true)
    (h : B [.ref a, y] kn (fun v k => Q v k n) (fun cls d k => EA cls d k n)) : W c (rCmpO K C (liftX B) E (.ref a) y) kn n Q :=
  fun H g Q' q => ⟨a, dx, fs, t, rfl, g.ex _ _ ha, tyx_ext g.ex ty, nf, sp_call hm hE h H g Q' q⟩
theorem w_unO {te : TE} {C : Addr} (hm : MonoX B) (hE : ErrOk c EA E)
    (h : W c (te σ) kn n fun x kn1 n1 => ∃ a dx fs, x = .ref a ∧ kn1 a = some (.ins C dx fs) ∧ B [.ref a] kn1 (fun v k => Q v k n1) (fun cls d k => EA cls d k n1)) : W c (tUn (rUnO C (liftX B) E) te σ) kn n Q :=
  fun H g Q' q => h H g _ fun x kn1 n1 H1 ⟨a, dx, fs, e, ha, hb⟩ g1 => ⟨a, dx, fs, e, g1.ex _ _ ha, sp_call hm hE hb H1 g1 Q' q⟩
theorem r_lcm {a b : Nat} (ha : a ≤ 1000000) (hb : b ≤ 1000000) (q : Q (.int (Nat.lcm a b : Nat)) kn n) : W c (rLcm [.int a, .int b]) kn n Q := fun H g _ k => ⟨a, b, rfl, ha, hb, k _ kn n H q g⟩
end
end AW

/-! max(list of ints, default=d); set(list of ints) -/
namespace L2
open PySem PySem.Spec PyProof.Rows PySem PySem.W
def rMaxDf (K : PySem.W.Frag) : List V → List V → Hp → VK → Prop := fun vs zs H Q => ∃ (a : Addr) (ns : List Int) (d : V), vs = [V.ref a] ∧ zs = [d] ∧ SqL K H a (ns.map V.int) ∧ (ns = [] → Q d H) ∧ ∀ m, m ∈ ns → (∀ y, y ∈ ns → y ≤ m) → Q (.int m) H
theorem fold_mem : ∀ (ns : List Int) (n : Int), ns.foldl max n ∈ n :: ns ∧ ∀ y ∈ n :: ns, y ≤ ns.foldl max n
  | [], n => ⟨.head _, fun y hy => by rw [List.mem_singleton.1 hy]; exact Int.le_refl _⟩
  | m :: r, n => by
    obtain ⟨h1, h2⟩ := fold_mem r (max n m)
    rw [List.foldl_cons]
    have hm := h2 (max n m) (.head _)
    refine ⟨?_, fun y hy => ?_⟩
    · rcases List.mem_cons.1 h1 with e | h
      · rw [e]
        rcases Int.le_total n m with z | z
        · rw [Int.max_eq_right z]; exact .tail _ (.head _)
        · rw [Int.max_eq_left z]; exact .head _
      · exact .tail _ (.tail _ h)
    · rcases List.mem_cons.1 hy with rfl | hy
      · exact Int.le_trans (Int.le_max_left _ _) hm
      · rcases List.mem_cons.1 hy with rfl | hy
        · exact Int.le_trans (Int.le_max_right _ _) hm
        · exact h2 y (.tail _ hy)
theorem alike_ints (ns : List Int) : AlikeAll (ns.map PyData.int) := by
  refine ⟨fun x hx y hy => ?_, fun x hx => ?_⟩
  · obtain ⟨i, _, rfl⟩ := List.mem_map.1 hx
    obtain ⟨j, _, rfl⟩ := List.mem_map.1 hy
    rfl
  · obtain ⟨i, _, rfl⟩ := List.mem_map.1 hx
    exact nofun
theorem depth_ints : ∀ ns : List Int, PyData.depthAll (ns.map PyData.int) = 0
  | [] => by simp [PyData.depthAll]
  | n :: r => by simp only [List.map_cons, PyData.depthAll, PyData.depth]; rw [depth_ints r]; rfl
theorem dpi : ∀ {K : PySem.W.Frag} {H : Hp} (ns : List Int), DpAll K H (ns.map V.int) (ns.map PyData.int)
  | _, _, [] => .nil
  | _, _, n :: r => .cons (.int n) (dpi r)
theorem cr_maxDf {X : Cx} (hc : X.calm = true) (hu : X.A.units + 64 < cLine) : CallRK X (.builtin "max") [Str.ofString "default"] (rMaxDf X.K) := by
  intro pins s σ H vs zs us ws Q I r rz h
  obtain ⟨a, ns, d, rfl, rfl, hs, h0, h1⟩ := h
  obtain rfl := Vals.ref1 r
  cases rz with
  | cons rd rt =>
    cases rt
    obtain ⟨its, rv, pl, hz⟩ := I.list hs
    obtain ⟨as, hr⟩ := Dp.readsAll I _ _ _ (dpi ns) rv
    refine max_list_default (I.ok.hd hc) pl.isList (by simpa using hr) (alike_ints ns) (by rw [depth_ints]; omega) (fun e h' tk hk => ?_) fun y ys i v h' tk bs e hv hrd hk => ?_
    · have e : ns = [] := by cases ns with | nil => rfl | cons => cases e
      exact ⟨d, H, I.kept hk, rd, h0 e⟩
    · cases ns with
      | nil => cases e
      | cons n r =>
        cases e
        rw [maxD_ints] at hrd
        obtain ⟨m1, m2⟩ := fold_mem r n
        refine ⟨.int (r.foldl max n), H, I.kept hk, ?_, h1 _ m1 m2⟩
        cases hrd
        exact ⟨_, rfl⟩
/-! ### set(list) -/
/-- a set that holds nothing yet -/
abbrev emptyO (w : World) : Obj := { cls := .type "set", dict := none, data := .set #[] 0 (.fresh 0 0 (!w.params.followText "set-order")) }
section
variable {P : Program} {w : World} {A : Around} {E : Value → Shared → Prop}
set_option maxHeartbeats 0 in
theorem init_list {s : Shared} {S l : Addr} {items : Array Value} {ns : List Int} {R : Fin → Shared → Prop} {E' : Value → Shared → Prop} (hh : A.handled = none) (hS : s.heap.get? S = some (emptyO w)) (hl : s.heap.IsList l items) (hi : IntsAre items.toList ns) (hb : ns.length + 1 < scanBound)
    (h : ∀ (h' : Heap) (tk c : Nat), SetR w h' S (fun j => decide (j ∈ ns)) c → c ≤ ns.length → (∀ b o, b ≠ S → s.heap.get? b = some o → h'.get? b = some o) → R (.done (.ret .none)) { s with heap := h', toks := tk }) :
    wpAny (model P w) A (Builtin.«set.__init__» ⟨[.ref S, .ref l], []⟩) R E' s := by
  have hT : s.TypeIs (.ref S) "set" := ⟨_, hS, rfl⟩
  obtain ⟨ol, hol, hcl, nl, hdl⟩ := id hl
  obtain ⟨ocls, odict, odata, oslots⟩ := ol
  simp only at hcl hdl
  subst hcl; subst hdl
  have x1 := F.sub_list_set
  have x2 := F.sub_list_frozenset
  have x3 : (Value.type "list" == Value.type "dict") = false := by decide
  unfold Builtin.«set.__init__» noKeywords Builtin.Frozenset.updateFrom
  generalize hPI : pyIter = PI
  wp_walk
  subst hPI
  refine wpAny_pyIter_list hl ?_
  refine wpAny_bind (wpAny_runValue ?_)
  clear x1 x2 x3
  have hlt := Heap.lt_size hol
  have hSl := Heap.lt_size hS
  have hne : l ≠ s.heap.objs.size := Nat.ne_of_lt hlt
  have hlS : l ≠ S := fun z => by
    rw [z, hS] at hol
    have e : Value.type "set" = Value.type "list" := congrArg Obj.cls (Option.some.inj hol)
    exact absurd (Value.type.inj e) (by decide)
  have hsz : items.size = ns.length := by
    have q := IntsAre.length hi
    rw [Array.length_toList] at q
    exact q
  have hval : ∀ (i : Nat) (v : Value), items[i]? = some v → ∃ k t, ns[i]? = some k ∧ v = .int k t := fun i v hv => by
    have hi2 : i < ns.length := by rw [← hsz]; exact (Array.getElem?_eq_some_iff.mp hv).1
    obtain ⟨t, e⟩ := PyProof.Rows.IntsAre.int_at hi i v (by rw [Array.getElem?_toList]; exact hv)
    exact ⟨ns[i], t, List.getElem?_eq_getElem hi2, by rw [e, List.getD_eq_getElem?_getD, List.getElem?_eq_getElem hi2]; rfl⟩
  have hSf : S ∉ [s.heap.objs.size, l] := by
    simp only [List.mem_cons, List.mem_singleton, List.not_mem_nil, or_false, not_or]
    exact ⟨Nat.ne_of_lt hSl, fun z => hlS z.symm⟩
  refine set_update_ints ((Walks.list (by simp [hh]) _ l hne items).toS) S hSf ns hsz hb hval (items.size - 0) 0 _ (by omega) (Nat.zero_le _) ⟨⟨_, Heap.get?_push_size _ rfl, rfl, rfl⟩, hl.push _⟩ ⟨0, Nat.le_refl 0, setR_new_at (Heap.get?_push_of_some _ hS)⟩ ?hR
  intro s' c hm hc hS'
  obtain ⟨h', g2, d', tk', os'⟩ := s'
  have eg : g2 = s.gens := hm.gens
  have ed : d' = s.drawn := hm.drawn
  have eo : os' = s.os := hm.os
  subst eg; subst ed; subst eo
  show wpAny _ _ _ _ _ _
  refine wpAny_pure ?_
  show wpAny _ _ (ret Value.none) _ _ _
  refine wpAny_pure (h h' tk' c hS' (by rw [← hsz]; exact hc) fun b o hb e => ?_)
  have hb2 : b ≠ s.heap.objs.size := Nat.ne_of_lt (Heap.lt_size e)
  exact hm.heap b o (by simp only [List.mem_cons, List.mem_singleton, List.not_mem_nil, or_false, not_or]; exact ⟨hb, hb2⟩) (Heap.get?_push_of_some _ e)
set_option maxHeartbeats 0 in
/-- set(l) of a list of ints -/
theorem call_set_ints {s : Shared} {l : Addr} {items : Array Value} {ns : List Int} {Q : Value → Shared → Prop} (hh : A.handled = none) (hl : s.heap.IsList l items) (hi : IntsAre items.toList ns) (hb : ns.length + 1 < scanBound)
    (h : ∀ (h' : Heap) (tk c : Nat), SetR w h' s.heap.objs.size (fun j => decide (j ∈ ns)) c → c ≤ ns.length → (∀ b o, s.heap.get? b = some o → h'.get? b = some o) → Q (.ref s.heap.objs.size) { s with heap := h', toks := tk }) :
    wpAny (model P w) A (call (.type "set") [.ref l]) Q E s := by
  obtain ⟨c, tl, hmro⟩ := F.called_set.mro
  have hmade := F.called_set.made
  have hsub := F.called_set.sub
  refine wpAny_call (codeAny_of_tree ?_)
  show wpAny _ _ (callAny (.type "set") _) _ _ _
  refine wpAny_pure ⟨Code.quiet_builtin _ (by decide +kernel), codeAny_builtin F.entry_type_call ?_⟩
  rw [Around.under_plain (weight_type_call_type "set" [.ref l] []) rfl]
  have h1 := F.called_set.notType
  have h2 := F.called_set.canCreate
  have h3 := F.typeCall_set_1 (.ref l)
  repeat (any_goals (first | assumption | wp_step))
  refine codeAny_mono (code_set_led1 (.ref l) (E := E) (Q₁ := fun obj s₁ => obj = .ref s.heap.objs.size ∧ s₁ = { s with heap := s.heap.push (emptyO w) }) ⟨rfl, rfl⟩) fun r s₁ hr => ?_
  rcases r with e | fl
  · exact hr
  rcases fl with _ | _ | _ | obj
  all_goals first | exact hr.elim | skip
  obtain ⟨rfl, rfl⟩ := hr
  have hS : (s.heap.push (emptyO w)).get? s.heap.objs.size = some (emptyO w) := Heap.get?_push_size _ rfl
  have hT : Shared.TypeIs { s with heap := s.heap.push (emptyO w) } (.ref s.heap.objs.size) "set" := ⟨_, hS, rfl⟩
  have i1 := F.called_set.init.lookup
  have i2 := F.called_set.init.bind (.ref s.heap.objs.size)
  repeat (any_goals (first | assumption | wp_step))
  refine codeAny_mono (codeAny_call_builtin (R := wants (fun r s₂ => r = .none ∧ ∃ h' tk n, s₂ = { s with heap := h', toks := tk } ∧ SetR w h' s.heap.objs.size (fun j => decide (j ∈ ns)) n ∧ n ≤ ns.length ∧
      (∀ b o, s.heap.get? b = some o → h'.get? b = some o)) E) F.called_set.init.plain F.entry_set_init (check_set_init_1 hT ?_)) fun r₂ s₂ hr₂ => ?_
  · refine init_list (by simp [hh]) hS (hl.push _) hi hb fun h' tk n hn hc hk => ?_
    exact ⟨rfl, h', tk, n, rfl, hn, hc, fun b o e => hk b o (Nat.ne_of_lt (Heap.lt_size e)) (Heap.get?_push_of_some _ e)⟩
  · rcases r₂ with e | fl
    · exact hr₂
    rcases fl with _ | _ | _ | r
    all_goals first | exact hr₂.elim | skip
    obtain ⟨rfl, h', tk, n, rfl, hn, hc, hk⟩ := hr₂
    repeat (any_goals (first | assumption | wp_step))
    exact h _ _ _ hn hc hk
end
def rSetFromL (K : PySem.W.Frag) (w : World) : List V → Hp → VK → Prop := fun vs H Q => ∃ (l : Addr) (ns : List Int), vs = [.ref l] ∧ SqL K H l (ns.map V.int) ∧ ns.length ≤ 1000 ∧ ∀ a n, H a = none → n ≤ ns.length → Q (.ref a) (upd H a (SetO w a (fun k => decide (k ∈ ns)) n))
theorem cr_setL {X : Cx} (hc : X.calm = true) : CallR X (.type "set") (rSetFromL X.K X.w) := by
  intro pins s σ H vs us Q I r h
  obtain ⟨l, ns, rfl, hs, hl, q⟩ := h
  obtain rfl := Vals.ref1 r
  obtain ⟨its, rv, pl, hz⟩ := I.list hs
  refine call_set_ints (I.ok.hd hc) pl.isList (by simpa using ints_of_vals rv) (by unfold scanBound; omega) fun h' tk n R hn hk => ?_
  exact ⟨.ref _, upd H s.heap.objs.size (SetO X.w s.heap.objs.size (fun k => decide (k ∈ ns)) n), I.laid (t' := tk) hk (Nat.le_refl _) (setO_new R), rfl, q _ n (I.hok.fresh (Nat.le_refl _)) hn⟩
end L2
namespace AW
open PySem PySem.Spec PyProof.Rows L2 LamX
section
variable {c : Cw} {kn : Hp} {n : Nat} {σ : L2.St} {Q : V → Hp → Nat → Prop} {K : PySem.W.Frag} {w : World}
theorem r_setL {l : Addr} {ns : List Int} (h : kn l = some (.lst (ns.map V.int))) (hl : ns.length ≤ 1000) (q : ∀ a m, kn a = none → m ≤ ns.length → Q (.ref a) (upd kn a (SetO w a (fun k => decide (k ∈ ns)) m)) n) : W c (rSetFromL K w [.ref l]) kn n Q :=
  fun H g Q' k => ⟨l, ns, rfl, sql (g.ex _ _ h), hl, fun a m ha hm => k _ _ _ _ (q a m (g.free ha) hm) (g.new ha)⟩
theorem r_sortSet {a : Addr} {S : Int → Bool} {m : Nat} (h : kn a = some (SetO w a S m)) (hm : m < 64) (q : ∀ (ns : List Int) (p : Addr), ns.Pairwise (· < ·) → (∀ k : Int, k ∈ ns ↔ S k = true) → kn p = none → Q (.ref p) (upd kn p (.lst (ns.map V.int))) n) : W c (rSortedSet w [.ref a]) kn n Q :=
  fun H g Q' k => ⟨a, S, m, rfl, g.ex _ _ h, hm, fun ns p h1 h2 _ hp => k _ _ _ _ (q ns p h1 h2 (g.free hp)) (g.new hp)⟩
theorem w_ckw {r : List V → List V → Hp → VK → Prop} {t tk : TA} (h : W c (t σ) kn n fun vs kn1 n1 => W c (tk σ) kn1 n1 fun zs kn2 n2 => W c (r vs zs) kn2 n2 Q) : W c (tCKw r t tk σ) kn n Q :=
  fun H g Q' q => h H g _ fun vs kn1 n1 H1 h1 g1 => h1 H1 g1 _ fun zs kn2 n2 H2 h2 g2 => h2 H2 g2 Q' q
theorem r_maxDf {a : Addr} {ns : List Int} {d : V} (h : kn a = some (.lst (ns.map V.int))) (q0 : ns = [] → Q d kn n) (q : ∀ m, m ∈ ns → (∀ y, y ∈ ns → y ≤ m) → Q (.int m) kn n) : W c (rMaxDf K [.ref a] [d]) kn n Q :=
  fun H g Q' k => ⟨a, ns, d, rfl, rfl, sql (g.ex _ _ h), fun e => k _ _ _ _ (q0 e) g, fun m h1 h2 => k _ _ _ _ (q m h1 h2) g⟩
end
end AW

/-! try .. except C as n: .. except D: ..: the first clause takes all errors. -/
namespace L2
open PySem PySem.Spec PyProof.Rows
section
variable {X : Cx} {x n : Str} {c : Value} {i : Nat} {body suite : List Stmt} {b₀ : Stmt} {np pos pos' : Pos} {tb : WX → TS} {ts : Addr → Value → Option Addr → TS}
theorem ps_try_keepR {hds : List ExceptHandler} (hex : X.ex = []) (hs : X.stack = X.env :: X.outer) (hf : X.env.frame = some X.env.locals) (hN : X.N.Nodup) (hi : X.N[i]? = some n) (hln : X.env.kindOf n = some .local) (hc : Names X x c)
    (hb : ∀ (W : WX) (pn : List (Addr × Obj)) (xe : Value → Shared → Prop), Takes (X.tr pn xe) W → PassesOwn (model X.prog X.w) X.A X.env xe → PSs (X.tr pn xe) body (tb W))
    (hsu : ∀ (a : Addr) (oe : Obj) (cls : Value) (d : Option Addr) (pn : List (Addr × Obj)), Zc cls d oe → (∃ vs, oe.data = .fields vs) → PSs (X.suite a ((a, oe) :: pn)) (b₀ :: suite) (ts a cls d)) :
    PS X (.Try body (.ExceptHandler (some (.Name x np)) (some n) (b₀ :: suite) pos' :: hds) [] [] pos) (fun D σ H => tb (wKeep X.K c i ts D) D σ H) := by
  refine ⟨fun pins s σ H D I h => ?_⟩
  have ok := I.ok
  have frm : X.A.frames = some (X.env :: X.outer) := by rw [ok.frames, hs]
  refine wpAny_Try_except ?_
  refine wpAny_mono ((hb (wKeep X.K c i ts D) (X.pn ++ pins) (fun e s₁ => wpAny (model X.prog X.w) X.A (noteFrame e X.env) (fun _ s₂ => wpAny (model X.prog X.w) X.A (setFlight e none)
    (fun _ s₃ => wpAny (model X.prog X.w) X.A (handleBy e X.env (.ExceptHandler (some (.Name x np)) (some n) (b₀ :: suite) pos' :: hds)) (SP X pins D) X.xe s₃) X.xe s₂) X.xe s₁) (fun u s' xx => ?_) PassesOwn.looking).run [] s σ H D (I.toTry _) h) (fun f s1 hsp => ?_) (fun _ _ z => z)
  · obtain ⟨a, B, sI, pins', σ', H', cls, d, rfl, J', nb, up, sky, na, os, ag, hyes1, hyes⟩ := xx
    have J : Inv X pins σ' H' sI := J'.ofTry ok
    show wpAny (model X.prog X.w) X.A (noteFrame (.ref a) X.env) _ _ _
    refine Sky.land Zc.steady frm hf (show Sky B (X.env :: X.outer) a (Zc cls d) X.env.locals s'.heap by rw [← hs]; exact sky) fun h3 fl3 up3 => ?_
    have J3 : Inv X pins σ' H' { s' with heap := h3 } := J.landed nb fl3.1 (up.trans up3) os ag
    obtain ⟨oe3, vs3, he3, hz3, hd3⟩ := fl3.there
    have nfr : a ∉ frs (X.env :: X.outer) := fun hm => by
      obtain ⟨_, o', e', hnf⟩ := fl3.2.2.1.mem hm
      rw [he3] at e'
      cases e'
      exact hnf _ hd3
    have nL : a ≠ X.env.locals := fun z => nfr (List.mem_filterMap.mpr ⟨X.env, List.mem_cons_self, by rw [hf, z]⟩)
    have nF : a ∉ X.fs := fun hm => by
      obtain ⟨e, he, q⟩ := List.mem_filterMap.mp hm
      exact nfr (List.mem_filterMap.mpr ⟨e, List.mem_cons_of_mem _ he, q⟩)
    have inB : ∀ {b : Addr} {o : Obj}, sI.heap.get? b = some o → b ∉ frs X.stack → b ≠ a := fun {b o} e hb z => by
      have q := nb b o e hb
      rw [z, fl3.2.1] at q
      cases q
    have n0 : X.s_0.heap.get? a = none := by
      cases e : X.s_0.heap.get? a with
      | none => rfl
      | some o =>
        obtain ⟨o', e'⟩ := J.base.there a o e (by rw [hex]; exact fun z => nomatch z)
        exact absurd rfl (inB e' (by rw [hs]; exact nfr))
    have npin : ∀ p ∈ X.pn ++ pins, p.1 ≠ a := fun p hp => by
      obtain ⟨e, _, n1, n2, _⟩ := J.pin p hp
      exact inB e fun hm => (List.mem_cons.mp (J.stkSub _ hm)).elim n1 n2
    refine wpAny_handleBy_cons (codeAny_handlers_test ?_) (by intro q; cases q)
    have LT : PySem.W.Looks (model X.prog X.w) h3 (typeOf (.ref a)) cls := fun A Q E s k q => wpAny_typeOf_ref (k _ _ he3) (by rw [hz3.1]; exact q)
    have S3 := J3.suite he3 hd3 na nL nF
    have test : ∀ {Q : Value → Shared → Prop} {E : Value → Shared → Prop}, Q c { s' with heap := h3 } → wpAny (model X.prog X.w) (X.A.mark (some (.ref a))) (eval (.Name x np) X.env) Q E { s' with heap := h3 } := fun {Q E} q => by
      obtain ⟨g1, g2, g3 | ⟨g3, g4, g5⟩⟩ := hc
      · exact ld_glob (X := X.suite a ((a, oe3) :: (X.pn ++ pins))) S3 g1 g3 q g2
      · exact ld_blt (X := X.suite a ((a, oe3) :: (X.pn ++ pins))) S3 g1 g3 g4 q g5 g2
    refine test ((PySem.W.exm_one (M := model X.prog X.w) (J3.kIn) LT hyes1).here ?_)
    refine codeAny_handlers_suite_as ?_
    refine HandSPX.lands_againZ fl3 fun h4 fl4 up4 => ?_
    have J4 : Inv X pins σ' H' { s' with heap := h4 } := J.landed nb fl4.1 ((up.trans up3).trans up4) os ag
    obtain ⟨oe4, vs4, he4, hz4, hd4⟩ := fl4.there
    refine store_ok (X := X.suite a ((a, oe4) :: (X.pn ++ pins))) (v := .ref a) (J4.suite he4 hd4 na nL nF) hN hi (.inl hln) rfl (fun s5 S5 => ?_) (.inr hln)
    refine wpAny_mono ((hsu a oe4 cls d (X.pn ++ pins) hz4 ⟨_, hd4⟩).run [] s5 _ H' _ S5 (hyes a na)) (fun f s6 hsp => ?_) (fun _ _ z => False.elim z)
    have fin : ∀ {σ6 : St} {H6 : Hp} {Q : Shared → Prop}, Inv (X.suite a ((a, oe4) :: (X.pn ++ pins))) [] σ6 H6 s6 → (∀ s7, Inv X pins (σ6.set i none) (upd H6 a (exh a cls d)) s7 → Q s7) →
        wpAny (model X.prog X.w) X.A (do bindName X.env n .none; unbindBehindTheSuite X.env n pos') (fun _ s7 => Q s7) X.xe s6 := fun {σ6 H6 Q} S6 hq => gone_ok (S6.unsuiteK ok) hN hi hln fun s7 J7 => hq s7 (J7.track hd4 hz4 n0 npin)
    cases f with
    | ret u =>
      obtain ⟨v6, σ6, H6, S6, r6, q6⟩ := hsp
      exact fin S6 fun s7 J7 => ⟨_, _, _, J7, r6, q6⟩
    | next =>
      obtain ⟨σ6, H6, S6, q6⟩ := hsp
      exact fin S6 fun s7 J7 => ⟨_, _, J7, q6⟩
    | cont =>
      obtain ⟨σ6, H6, S6, q6⟩ := hsp
      exact fin S6 fun s7 J7 => ⟨_, _, J7, q6⟩
    | brk =>
      obtain ⟨σ6, H6, S6, q6⟩ := hsp
      exact fin S6 fun s7 J7 => ⟨_, _, J7, q6⟩
  · cases f with
    | ret u =>
      obtain ⟨v, σ', H', J', r, q⟩ := hsp
      exact ⟨v, σ', H', J'.ofTry ok, r, q⟩
    | next =>
      obtain ⟨σ', H', J', q⟩ := hsp
      exact wpAny_execs_nil ⟨σ', H', J'.ofTry ok, q⟩
    | cont =>
      obtain ⟨σ', H', J', q⟩ := hsp
      exact ⟨σ', H', J'.ofTry ok, q⟩
    | brk =>
      obtain ⟨σ', H', J', q⟩ := hsp
      exact ⟨σ', H', J'.ofTry ok, q⟩
end
end L2

/-! while; any(tuple); list.clear; sorted(list of ints); try .. except C as e (all errors taken) of a statement, its suite returns -/
namespace L2
open PySem PySem.Spec PyProof.Rows
def rAnyT (K : PySem.W.Frag) : List V → Hp → VK → Prop := fun vs H Q => ∃ (a : Addr) (bs : List Bool), vs = [V.ref a] ∧ SqT K H a (bs.map V.bl) ∧ Q (.bl (bs.any id)) H
theorem dpb : ∀ {K : PySem.W.Frag} {H : Hp} (bs : List Bool), DpAll K H (bs.map V.bl) (bs.map PyData.bool)
  | _, _, [] => .nil
  | _, _, b :: r => .cons (.bl b) (dpb r)
theorem plain_bls : ∀ bs : List Bool, PyData.plainAll (bs.map PyData.bool) = true
  | [] => by simp [PyData.plainAll]
  | b :: r => by simp only [List.map_cons, PyData.plainAll, PyData.plain, Bool.true_and]; exact plain_bls r
theorem any_bls (bs : List Bool) : (bs.map PyData.bool).any PyData.truthy = bs.any id := by
  rw [List.any_map]
  congr 1
theorem cr_anyT {X : Cx} (hc : X.calm = true) : CallR X (.builtin "any") (rAnyT X.K) := by
  intro pins s σ H vs us Q I r h
  obtain ⟨a, bs, rfl, hs, q⟩ := h
  obtain rfl := Vals.ref1 r
  obtain ⟨its, rv, pl, hz⟩ := I.tuple hs
  obtain ⟨as, hr⟩ := Dp.readsAll I _ _ _ (dpb bs) rv
  refine PySem.W.any_tuple_data (I.ok.hd hc) pl (by simpa using hr) (plain_bls bs) (fun x hx => ?_) fun h' tk hk => ?_
  · obtain ⟨b, _, rfl⟩ := List.mem_map.1 hx
    trivial
  · rw [any_bls]
    exact ⟨.bl _, H, I.kept hk, rfl, q⟩
end L2
namespace AW
open PySem PySem.Spec PyProof.Rows L2 LamX
section
variable {c : Cw} {kn : Hp} {n : Nat} {σ : L2.St} {Q : V → Hp → Nat → Prop} {K : PySem.W.Frag} {D : AE}
theorem r_anyT {a : Addr} {bs : List Bool} (h : kn a = some (.tup (bs.map V.bl))) (q : Q (.bl (bs.any id)) kn n) : W c (rAnyT K [.ref a]) kn n Q := fun H g _ k => ⟨a, bs, rfl, sqt (g.ex _ _ h), k _ kn n H q g⟩
theorem r_sortI {a : Addr} {ns : List Int} (h : kn a = some (.lst (ns.map V.int))) (q : ∀ (ns' : List Int) (p : Addr), ns'.Perm ns → ns'.Pairwise (· ≤ ·) → kn p = none → Q (.ref p) (upd kn p (.lst (ns'.map V.int))) n) : W c (rSortedI K [.ref a]) kn n Q :=
  fun H g Q' k => ⟨a, ns, rfl, sql (g.ex _ _ h), fun ns' p h1 h2 hp => k _ _ _ _ (q ns' p h1 h2 (g.free hp)) (g.new hp)⟩
theorem w_clear {i : Nat} {l : Addr} {xs : List V} (hv : σ[i]? = some (some (.ref l))) (h0 : kn l = some (.lst xs)) (q : Q .non (upd kn l (.lst [])) n) : W c (tBM0 K "list" rClear (tVar i) σ) kn n Q :=
  fun H g Q' k => ⟨.ref l, hv, .inl ⟨rfl, _, sql (g.ex _ _ h0)⟩, l, xs, rfl, rfl, g.ex _ _ h0, k _ _ _ _ q (g.put h0 rfl)⟩
/-- while: Pv what holds at each turn, its measure -/
theorem s_while {t : TT} {tb : TS} (Pv : Nat → L2.St → Hp → Nat → Prop) (m0 : Nat) (h0 : Pv m0 σ kn n)
    (h : ∀ m σ1 kn1 n1, Pv m σ1 kn1 n1 → W c (t σ1) kn1 n1 fun b kn2 n2 => if b = true then WS c tb { D with nx := fun σ3 kn3 n3 => ∃ m', m' < m ∧ Pv m' σ3 kn3 n3, ct := fun σ3 kn3 n3 => ∃ m', m' < m ∧ Pv m' σ3 kn3 n3, bk := D.nx } σ1 kn2 n2 else D.nx σ1 kn2 n2) :
    WS c (tWhile t tb) D σ kn n := fun H g D' f => by
  refine ⟨fun m σ1 H1 => ∃ kn1 n1, Pv m σ1 kn1 n1 ∧ Good c kn1 n1 H1, ⟨m0, kn, n, h0, g⟩, ?_⟩
  rintro m σ1 H1 ⟨kn1, n1, hp, g1⟩
  refine h m σ1 kn1 n1 hp H1 g1 _ fun b kn2 n2 H2 hb g2 => ?_
  cases b with
  | false => exact f.nx _ _ _ _ hb g2
  | true =>
    rw [if_pos rfl] at hb ⊢
    refine ⟨fun σ3 H3 => ∃ kn3 n3, (∃ m', m' < m ∧ Pv m' σ3 kn3 n3) ∧ Good c kn3 n3 H3, ?_, ?_⟩
    · rintro σ' H' ⟨kn3, n3, ⟨m', l, hp'⟩, g3⟩
      exact ⟨m', l, kn3, n3, hp', g3⟩
    · exact hb H2 g2 _ ⟨fun σ3 k3 n3 H3 z g3 => ⟨k3, n3, z, g3⟩, fun v k3 n3 H3 z g3 => f.rt _ _ _ _ z g3, fun σ3 k3 n3 H3 z g3 => f.nx _ _ _ _ z g3, fun σ3 k3 n3 H3 z g3 => ⟨k3, n3, z, g3⟩⟩
/-- an object laid where nothing stood, behind what changed nothing -/
theorem Good.lay {kn1 kn' H2 H' : Hp} {n1 m : Nat} {a : Addr} {o : HO} (g2 : AW.Good c kn1 n1 H2) (ha : H2 a = none) (e : Ext kn1 kn') (g' : AW.Good (pureC kn1 H2) kn' m H') : AW.Good c kn1 n1 (upd H' a o) := by
  refine ⟨fun x u hx => ?_, c.step n1 kn1 H2 (upd H' a o) g2.inv g2.res fun x u hx hk => ?_, g2.res, g2.nt⟩
  · rw [upd_ne (fun z => by have := g2.ex _ _ hx; rw [z, ha] at this; cases this)]
    exact g'.ex _ _ (e _ _ hx)
  · rw [upd_ne (fun z => by rw [z, ha] at hx; cases hx)]
    exact g'.inv x u hx hk
/-- try: a statement that may raise; the clause takes all its errors and its suite returns -/
theorem s_keep {cV : Value} {i m : Nat} {ts : Addr → Value → Option Addr → TS} {te : XK → TE} (EA : EAK)
    (h : ∀ E, ErrOk c EA E → W c (te E σ) kn n fun _ kn1 n1 => D.nx σ kn1 n1)
    (hx : ∀ cls d kn' n', EA cls d kn' n' → PySem.W.exmOne K cls cV = some true ∧ ∀ (σ' : L2.St) (a : Addr) (H' : Hp), σ'.length = m → kn' a = none →
      WS (pureC kn' H') (ts a cls d) { nx := fun _ _ _ => False, rt := fun v k _ => Ext kn' k ∧ D.rt v kn' n' } (σ'.set i (some (.ref a))) kn' 0) :
    WS c (fun De σ H => tDrop (te (fun cls d H' => ∀ σ' : L2.St, List.length σ' = m → wKeep K cV i ts De cls d σ' H')) De σ H) D σ kn n := fun H g D' f => by
  refine h _ (fun cls d kn' n' H' he g' => ?_) H g _ fun v kn1 n1 H1 h1 g1 => f.nx σ kn1 n1 H1 h1 g1
  intro σ' hl
  obtain ⟨h1, h2⟩ := hx cls d kn' n' he
  refine ⟨h1, fun a ha => ?_⟩
  refine h2 σ' a H' hl (g'.free ha) H' (pure_start g'.ex g'.nt) _ ⟨fun _ _ _ _ z _ => z.elim, fun v k m' H'' hr g'' => ?_, fun _ _ _ _ z _ => z.elim, fun _ _ _ _ z _ => z.elim⟩
  exact f.rt v kn' n' _ hr.2 (Good.lay g' ha hr.1 g'')
end
end AW

/-! t.count(b) of a tuple of truth values; divmod as the library has it (L2.call_divmod). -/
namespace L2
open PySem PySem.Spec PyProof.Rows
section
variable {X : Cx}
/-- t.count(b) -/
def rCntT (K : PySem.W.Frag) : V → List V → Hp → VK → Prop := fun x xs H Q => ∃ (p : Addr) (bs : List Bool) (b : Bool), x = .ref p ∧ xs = [.bl b] ∧ SqT K H p (bs.map V.bl) ∧ Q (.int (bs.count b : Nat)) H
theorem cnt_bools {b : Bool} : ∀ {bs : List Bool} {us : List Value}, Vals (bs.map V.bl) us → us.countP (PpSet.isB b) = bs.count b ∧ ∀ y ∈ us, ∃ c, y = .bool c
  | [], _, r => by cases r; exact ⟨rfl, fun y hy => by cases hy⟩
  | c :: bs, _, r => by
    cases r with
    | cons r1 r2 =>
      cases (show _ = Value.bool c from r1)
      obtain ⟨h1, h2⟩ := cnt_bools (b := b) r2
      refine ⟨?_, fun y hy => ?_⟩
      · rw [List.countP_cons, List.count_cons, h1]
        rfl
      · rcases List.mem_cons.1 hy with rfl | hy
        · exact ⟨c, rfl⟩
        · exact h2 y hy
theorem mt_tcnt : MtR X "tuple.count" (rCntT X.K) := by
  intro pins s σ H x xs v us Q I rx rxs h
  obtain ⟨p, bs, b, rfl, rfl, hs, q⟩ := h
  cases rx
  obtain ⟨u, rfl, ru⟩ := rxs.one
  cases (show u = Value.bool b from ru)
  obtain ⟨its, rv, ⟨⟨cls, dd, data, sl⟩, ho, hc, n, hd⟩, hlen⟩ := I.tuple hs
  simp only at hc hd
  subst hc hd
  obtain ⟨hcnt, hb⟩ := cnt_bools (b := b) rv
  refine call_meets PySem.F.slot_tuple_count ⟨_, ho, rfl⟩ PySem.F.entry_tuple_count (PySem.F.args_tuple_count_2 _ _)
    (SeqAt.tuple_countAt p its.toArray n dd sl (.bool b) (PpSet.isB b)) ⟨ho, fun y hy => ?_, ?_⟩
  · obtain ⟨c, rfl⟩ := hb y (by simpa using hy)
    exact SeqAt.EqAt.bool_bool c b
  · refine ⟨.int (bs.count b : Nat), H, I.tok _, ⟨s.toks, ?_⟩, q⟩
    show Value.int ((its.toArray.toList.countP (PpSet.isB b) : Nat) : Int) s.toks = _
    rw [show its.toArray.toList = its from rfl, hcnt]
end
/-- t[lo:hi], not the whole of it; what is made is known to the object -/
def rSlF (K : PySem.W.Frag) : V → Option Int → Option Int → Hp → VK → Prop := fun x lo hi H Q => ∃ a xs, x = .ref a ∧ SqT K H a xs ∧
  ¬ (HT.sIx xs.length 0 lo = 0 ∧ HT.sIx xs.length xs.length hi = xs.length) ∧ ∀ p (o : Obj), o.cls = .type "tuple" → o.dict = none → H p = none → Q (.ref p) (upd H p (.frz o (.tup (cutV xs lo hi))))
theorem sl_tupF : SlR X (rSlF X.K) := by
  intro pins s σ H x v vl vu lo hi sl Q I rx hs pl pu h
  obtain ⟨a, xs, rfl, hx, hw, q⟩ := h
  cases rx
  obtain ⟨its, r, ht, hz⟩ := I.tuple hx
  have hlen : its.toArray.size = xs.length := by rw [List.size_toArray]; exact r.length.symm
  refine ⟨"tuple", _, PyProof.Rows.slot_tuple_getitem.lookup, ht.typeIs, ?_⟩
  refine HT.getItem_tuple_cut ht hs pl pu (by rw [hlen]; exact hw) ?_ (by rw [hlen]; exact hz)
  rw [hlen]
  refine ⟨.ref s.heap.objs.size, _, I.laid (t' := s.toks) (o := .frz _ (.tup (cutV xs lo hi))) (fun b ob q => Heap.get?_push_of_some _ q) (Nat.le_refl _) ⟨Heap.get?_push_size _ rfl, ?_⟩, rfl, q _ _ rfl rfl (I.hok.fresh (Nat.le_refl _))⟩
  exact ⟨Nat.le_trans (cutV_length xs lo hi) hz, _, (r.drop (HT.sIx xs.length 0 lo)).take (HT.sIx xs.length xs.length hi - HT.sIx xs.length 0 lo), IsTup.new _ _⟩
/-- a method of a tuple that is known to the object -/
def tBMF (K : PySem.W.Frag) (r : V → List V → Hp → VK → Prop) (to : TE) (t : TA) : TE := fun σ H Q => to σ H fun x H1 => (∃ p o u, x = .ref p ∧ H1 p = some (.frz o u) ∧ o.cls = .type "tuple" ∧ o.dict = none) ∧ t σ H1 fun xs H2 => r x xs H2 Q
theorem pe_bmF {o e : Expr} {es : List Expr} {to : TE} {t : TA} {name : Str} {apos cpos : Pos} {id : String} {r : V → List V → Hp → VK → Prop} (pa : PlainAttrs "tuple") (slot : Slot "tuple" name id) (hty : typeOf (.builtin id) = pure (.type "method_descriptor")) (hm : MtR X id r) (ho : PE X o to) (ha : PA X (e :: es) t)
    (hbase : attributeBase o name X.env (eval o X.env) = eval o X.env := by rfl)
    (hfew : ((backTo cpos (starEach (e :: es) X.env)).all (fun x => !x.1) && (backToKw cpos (keywordEach [] X.env)).all (fun x => x.1.isSome)
      && decide ((e :: es).length + ([] : List Keyword).length + (if ([] : List Keyword).isEmpty then 0 else 1) < 30)) = true := by rfl)
    (hline : (apos.endLine == cpos.line) = true := by rfl) (hs : starEach (e :: es) X.env = (false, eval e X.env) :: starEach es X.env := by rfl) (hplain : (backTo cpos (starEach es X.env)).any (·.1) = false := by rfl) :
    PE X (.Call (.Attribute o name apos) (e :: es) [] cpos) (tBMF X.K r to t) := by
  refine ⟨fun pins s σ H Q I h => ?_⟩
  refine wpAny_Call_method_late hbase hfew hline rfl (thn (ho.run pins s σ H _ I h) fun v s1 ⟨x, H1, I1, r1, ⟨p, ob, u, ex, hp, hc, hd⟩, q1⟩ => ?_)
  subst ex
  cases r1
  have hg : s1.heap.get? p = some ob := (show ObjOk X.prog X.w H1 s1.heap p (.frz ob u) from I1.hok p _ hp).1
  refine ⟨"tuple", id, pa, slot, hty, ⟨ob, hg, hc⟩, (fun a e => by cases e; exact ⟨ob, hg, hd⟩), ?_⟩
  have hA := ha.run cpos pins s1 σ H1 _ I1 q1
  rw [hs] at hA ⊢
  refine Calls.callWith_builtin (by show (false || (backTo cpos (starEach es X.env)).any (·.1)) = false; rw [hplain] <;> rfl) (Calls.evalArgs_plain ?_)
  exact thn hA fun us s2 ⟨vs, H2, I2, r2, q2⟩ => hm pins s2 σ H2 (.ref p) vs (.ref p) us Q I2 rfl r2 q2
end L2
namespace AW
open PySem PySem.Spec PyProof.Rows L2
section
variable {c : Cw} {kn : Hp} {n : Nat} {σ : L2.St} {Q : V → Hp → Nat → Prop} {K : PySem.W.Frag}
theorem r_tcnt {p : Addr} {bs : List Bool} {b : Bool} (h : kn p = some (.tup (bs.map V.bl))) (q : Q (.int (bs.count b : Nat)) kn n) : W c (rCntT K (.ref p) [.bl b]) kn n Q :=
  fun H g _ k => ⟨p, bs, b, rfl, rfl, sqt (g.ex _ _ h), k _ kn n H q g⟩
theorem r_slF {p : Addr} {xs : List V} {lo hi : Option Int} (h : kn p = some (.tup xs)) (hw : ¬ (HT.sIx xs.length 0 lo = 0 ∧ HT.sIx xs.length xs.length hi = xs.length)) (q : ∀ l (o : Obj), o.cls = .type "tuple" → o.dict = none → kn l = none → Q (.ref l) (upd kn l (.frz o (.tup (cutV xs lo hi)))) n) : W c (rSlF K (.ref p) lo hi) kn n Q :=
  fun H g _ k => ⟨p, xs, rfl, sqt (g.ex _ _ h), hw, fun l o h1 h2 hl => k _ _ _ _ (q l o h1 h2 (g.free hl)) (g.new hl)⟩
/-- t.count(b) of a tuple that was just cut -/
theorem w_tcnt {to : TE} {t : TA} (h : W c (to σ) kn n fun x kn1 n1 => ∃ (p : Addr) (o : Obj) (bs : List Bool), x = .ref p ∧ kn1 p = some (.frz o (.tup (bs.map V.bl))) ∧ o.cls = .type "tuple" ∧ o.dict = none ∧ W c (t σ) kn1 n1 fun xs kn2 n2 => ∃ b, xs = [.bl b] ∧ kn2 p = some (.frz o (.tup (bs.map V.bl))) ∧ Q (.int (bs.count b : Nat)) kn2 n2) : W c (tBMF K (rCntT K) to t σ) kn n Q :=
  fun H g Q' k => h H g _ fun x kn1 n1 H1 ⟨p, o, bs, ex, hp, hc, hd, h1⟩ g1 => ⟨⟨p, o, _, ex, g1.ex _ _ hp, hc, hd⟩, h1 H1 g1 _ fun xs kn2 n2 H2 ⟨b, e2, hp2, h2⟩ g2 => ⟨p, bs, b, ex, e2, .inl (.inr ⟨o, g2.ex _ _ hp2⟩), k _ _ _ _ h2 g2⟩⟩
/-- divmod -/
theorem r_divmod {i j : Int} (h : CDiv i j) (q : ∀ p, kn p = none → Q (.ref p) (upd kn p (.tup [.int (i / j), .int (i % j)])) n) : W c ((fun xs H Q => ∃ i j, xs = [V.int i, .int j] ∧ CDiv i j ∧ ∀ p, H p = none → Q (.ref p) (upd H p (.tup [.int (i / j), .int (i % j)])) : List V → Hp → VK → Prop) [.int i, .int j]) kn n Q :=
  fun H g _ k => ⟨i, j, rfl, h, fun p hp => k _ _ _ _ (q p (g.free hp)) (g.new hp)⟩
end
end AW

/-! Marks that come round: the least period, the least start. Pure. -/
namespace Ln
def ix (t : List Bool) (i : Nat) : Bool := t.getD i false
theorem ix_lt {t : List Bool} {i : Nat} (h : i < t.length) : ix t i = t[i] := by
  unfold ix
  rw [List.getD_eq_getElem?_getD, List.getElem?_eq_getElem h]; rfl
theorem ext_ix {a b : List Bool} (hl : a.length = b.length) (h : ∀ i, i < a.length → ix a i = ix b i) : a = b := by
  apply List.ext_getElem hl
  intro i h1 h2
  rw [← ix_lt h1, ← ix_lt h2]
  exact h i h1
def turned (t : List Bool) (k : Nat) : List Bool := t.drop k ++ t.take k
theorem turned_len (t : List Bool) (k : Nat) : (turned t k).length = t.length := by
  unfold turned
  rw [List.length_append, List.length_drop, List.length_take]
  omega
theorem ix_turned {t : List Bool} {k i : Nat} (hk : k ≤ t.length) (hi : i < t.length) : ix (turned t k) i = ix t (if i + k < t.length then i + k else i + k - t.length) := by
  unfold turned ix
  rw [List.getD_eq_getElem?_getD, List.getD_eq_getElem?_getD]
  by_cases h : i + k < t.length
  · rw [if_pos h, List.getElem?_append_left (by rw [List.length_drop]; omega), List.getElem?_drop, Nat.add_comm k i]
  · rw [if_neg h, List.getElem?_append_right (by rw [List.length_drop]; omega), List.length_drop, List.getElem?_take, if_pos (by omega)]
    congr 2
    omega
/-- what comes round by k, a divisor -/
def Per (t : List Bool) (k : Nat) : Prop := ∀ i, i < t.length → ix t i = ix t (i % k)
theorem per_of_turned {t : List Bool} {k : Nat} (hk : 0 < k) (hkl : k ≤ t.length) (h : turned t k = t) : Per t k := by
  intro i
  induction i using Nat.strongRecOn with
  | _ i ih =>
    intro hi
    by_cases hik : i < k
    · rw [Nat.mod_eq_of_lt hik]
    · have e : ix (turned t k) (i - k) = ix t (i - k) := by rw [h]
      rw [ix_turned hkl (by omega), if_pos (by omega), Nat.sub_add_cancel (by omega)] at e
      rw [e, ih (i - k) (by omega) (by omega)]
      congr 1
      rw [Nat.mod_eq_sub_mod (by omega : i ≥ k)]
theorem turned_of_per {t : List Bool} {k : Nat} (hk : 0 < k) (hkl : k ≤ t.length) (hd : t.length % k = 0) (h : Per t k) : turned t k = t := by
  apply ext_ix (turned_len t k)
  rw [turned_len]
  intro i hi
  rw [ix_turned hkl hi]
  by_cases h2 : i + k < t.length
  · rw [if_pos h2, h _ h2, h _ hi, Nat.add_mod_right]
  · rw [if_neg h2, h _ (by omega), h _ hi]
    congr 1
    obtain ⟨m, hm⟩ := Nat.dvd_of_mod_eq_zero hd
    have h3 : t.length ≤ i + k := by omega
    have : i + k - t.length = i + k - k * m := by rw [hm]
    rw [this]
    rw [Nat.sub_mul_mod (by omega), Nat.add_mod_right]
/-- the least period -/
def isP (t : List Bool) (k : Nat) : Bool := decide (1 ≤ k) && decide (t.length % k = 0) && decide (turned t k = t)
def leastP (t : List Bool) : Nat := ((List.range t.length).find? (isP t)).getD t.length
theorem leastP_cases (t : List Bool) : (leastP t = t.length ∧ ∀ k, k < t.length → isP t k = false) ∨ (leastP t < t.length ∧ isP t (leastP t) = true ∧ ∀ k, k < leastP t → isP t k = false) := by
  unfold leastP
  cases h : (List.range t.length).find? (isP t) with
  | none =>
    left
    refine ⟨rfl, fun k hk => ?_⟩
    have := List.find?_eq_none.1 h k (List.mem_range.2 hk)
    simpa using this
  | some k =>
    right
    rw [List.find?_range_eq_some] at h
    refine ⟨List.mem_range.1 h.2.1, h.1, fun j hj => ?_⟩
    have := h.2.2 j hj
    simpa using this
theorem leastP_le (t : List Bool) : leastP t ≤ t.length := by
  rcases leastP_cases t with h | h <;> omega
theorem leastP_pos {t : List Bool} (h : 0 < t.length) : 0 < leastP t := by
  rcases leastP_cases t with ⟨e, _⟩ | ⟨_, p, _⟩
  · omega
  · unfold isP at p
    simp at p
    omega
theorem leastP_per {t : List Bool} (h : 0 < t.length) : t.length % leastP t = 0 ∧ Per t (leastP t) := by
  rcases leastP_cases t with ⟨e, _⟩ | ⟨l, p, _⟩
  · rw [e]
    exact ⟨Nat.mod_self _, fun i hi => by rw [Nat.mod_eq_of_lt hi]⟩
  · unfold isP at p
    simp at p
    exact ⟨p.1.2, per_of_turned (by omega) (by omega) p.2⟩
theorem leastP_min {t : List Bool} {k : Nat} (h1 : 1 ≤ k) (h2 : k < leastP t) (h3 : t.length % k = 0) (h : Per t k) : False := by
  have hk : isP t k = true := by
    unfold isP
    have := leastP_le t
    rw [turned_of_per (by omega) (by omega) h3 h]
    simp [h1, h3]
  rcases leastP_cases t with ⟨e, f⟩ | ⟨l, p, f⟩
  · rw [f k (by omega)] at hk; cases hk
  · rw [f k h2] at hk; cases hk
theorem ix_take {t : List Bool} {n i : Nat} (h : i < n) : ix (t.take n) i = ix t i := by
  unfold ix
  rw [List.getD_eq_getElem?_getD, List.getD_eq_getElem?_getD, List.getElem?_take, if_pos h]
/-- the first round comes round by no less -/
theorem leastP_take {t : List Bool} (h : 0 < t.length) : leastP (t.take (leastP t)) = leastP t := by
  have hle := leastP_le t
  have hp := leastP_pos h
  have hl : (t.take (leastP t)).length = leastP t := by rw [List.length_take]; omega
  obtain ⟨d, p⟩ := leastP_per h
  rcases leastP_cases (t.take (leastP t)) with ⟨e, _⟩ | ⟨l, q, _⟩
  · rw [e, hl]
  · exfalso
    rw [hl] at l
    have p2 := leastP_per (t := t.take (leastP t)) (by omega)
    have q1 := leastP_pos (t := t.take (leastP t)) (by omega)
    generalize leastP (t.take (leastP t)) = k at l q p2 q1
    rw [hl] at p2
    refine leastP_min (t := t) (k := k) q1 l ?_ ?_
    · obtain ⟨a, ha⟩ := Nat.dvd_of_mod_eq_zero d
      obtain ⟨b, hb⟩ := Nat.dvd_of_mod_eq_zero p2.1
      have hd : k ∣ t.length := ⟨b * a, by rw [ha]; generalize leastP t = L at hb; subst hb; rw [Nat.mul_assoc]⟩
      exact Nat.mod_eq_zero_of_dvd hd
    · intro i hi
      have hm : i % leastP t < leastP t := Nat.mod_lt _ hp
      have e1 : ix t i = ix t (i % leastP t) := p i hi
      have e2 : ix t (i % leastP t) = ix (t.take (leastP t)) (i % leastP t) := (ix_take hm).symm
      have e3 := p2.2 (i % leastP t) (by rw [hl]; exact hm)
      have e4 : i % leastP t % k = i % k := Nat.mod_mod_of_dvd i (Nat.dvd_of_mod_eq_zero p2.1)
      have e5 : ix (t.take (leastP t)) (i % k) = ix t (i % k) := ix_take (Nat.lt_trans (Nat.mod_lt _ q1) l)
      rw [e1, e2, e3, e4, e5]
/-- numbers that are marked -/
def idx (t : List Bool) : List Nat := (List.range t.length).filter (ix t)
def maskOf (n : Nat) (xs : List Nat) : List Bool := (List.range n).map fun i => decide (i ∈ xs)
theorem mask_len (n : Nat) (xs : List Nat) : (maskOf n xs).length = n := by simp [maskOf]
theorem ix_mask {n i : Nat} {xs : List Nat} (h : i < n) : ix (maskOf n xs) i = decide (i ∈ xs) := by
  unfold ix maskOf
  rw [List.getD_eq_getElem?_getD, List.getElem?_map, List.getElem?_range h]
  rfl
theorem mem_idx {t : List Bool} {i : Nat} : i ∈ idx t ↔ i < t.length ∧ ix t i = true := by
  unfold idx
  rw [List.mem_filter, List.mem_range]
theorem mask_idx (t : List Bool) : maskOf t.length (idx t) = t := by
  apply ext_ix (mask_len _ _)
  rw [mask_len]
  intro i hi
  rw [ix_mask hi]
  cases h : ix t i with
  | true => exact decide_eq_true (mem_idx.2 ⟨hi, h⟩)
  | false => exact decide_eq_false fun z => by rw [(mem_idx.1 z).2] at h; cases h
theorem idx_inj {a b : List Bool} (hl : a.length = b.length) (h : idx a = idx b) : a = b := by
  rw [← mask_idx a, ← mask_idx b, hl, h]
/-- the least start -/
def astray (near turn : List Bool) (s : Nat) : List Nat := (List.range near.length).filter fun i => ix near i != ix turn (i % s)
def beginOf (near turn : List Bool) (s : Nat) : Nat := match (astray near turn s).getLast? with | some m => m + 1 | none => 0
theorem sorted_range_filter (p : Nat → Bool) (n : Nat) : ((List.range n).filter p).Pairwise (· < ·) := (List.pairwise_lt_range).filter p
theorem last_max {l : List Nat} (h : l.Pairwise (· < ·)) {m : Nat} (hm : l.getLast? = some m) : m ∈ l ∧ ∀ x ∈ l, x ≤ m := by
  obtain ⟨ys, rfl⟩ := List.getLast?_eq_some_iff.1 hm
  refine ⟨by simp, fun x hx => ?_⟩
  rcases List.mem_append.1 hx with h1 | h1
  · exact Nat.le_of_lt ((List.pairwise_append.1 h).2.2 x h1 m (by simp))
  · rw [List.mem_singleton.1 h1]
    exact Nat.le_refl _
theorem begin_spec (near turn : List Bool) (s : Nat) : beginOf near turn s ≤ near.length ∧ (∀ i, beginOf near turn s ≤ i → i < near.length → ix near i = ix turn (i % s)) ∧ (0 < beginOf near turn s → ix near (beginOf near turn s - 1) ≠ ix turn ((beginOf near turn s - 1) % s)) := by
  unfold beginOf
  have hs := sorted_range_filter (fun i => ix near i != ix turn (i % s)) near.length
  cases h : (astray near turn s).getLast? with
  | none =>
    have e : astray near turn s = [] := List.getLast?_eq_none_iff.1 h
    refine ⟨Nat.zero_le _, fun i _ hi => ?_, fun z => absurd z (by decide)⟩
    by_cases q : ix near i = ix turn (i % s)
    · exact q
    · have : i ∈ astray near turn s := List.mem_filter.2 ⟨List.mem_range.2 hi, by simpa using q⟩
      rw [e] at this
      cases this
  | some m =>
    obtain ⟨h1, h2⟩ := last_max hs h
    have h3 := List.mem_filter.1 h1
    dsimp only
    refine ⟨List.mem_range.1 h3.1, fun i hi hl => ?_, fun _ => by simpa using h3.2⟩
    by_cases q : ix near i = ix turn (i % s)
    · exact q
    · have := h2 i (List.mem_filter.2 ⟨List.mem_range.2 hl, by simpa using q⟩)
      omega
theorem begin_uni {near turn : List Bool} {s b : Nat} (h1 : b ≤ near.length) (h2 : ∀ i, b ≤ i → i < near.length → ix near i = ix turn (i % s)) (h3 : 0 < b → ix near (b - 1) ≠ ix turn ((b - 1) % s)) : beginOf near turn s = b := by
  obtain ⟨g1, g2, g3⟩ := begin_spec near turn s
  rcases Nat.lt_trichotomy (beginOf near turn s) b with h | h | h
  · exact absurd (g2 (b - 1) (by omega) (by omega)) (h3 (by omega))
  · exact h
  · exact absurd (h2 (beginOf near turn s - 1) (by omega) (by omega)) (g3 (by omega))
/-- a least form -/
structure Form (nr tn : List Bool) : Prop where
  pos : 0 < tn.length
  per : leastP tn = tn.length
  beg : 0 < nr.length → ix nr (nr.length - 1) ≠ ix tn ((nr.length - 1) % tn.length)
  le : nr.length + tn.length ≤ 400
theorem form_of {near turn : List Bool} (h : 0 < turn.length) (hl : beginOf near turn (leastP turn) + leastP turn ≤ 400) : Form (near.take (beginOf near turn (leastP turn))) (turn.take (leastP turn)) := by
  have hp := leastP_pos h
  have hle := leastP_le turn
  obtain ⟨g1, g2, g3⟩ := begin_spec near turn (leastP turn)
  have l1 : (near.take (beginOf near turn (leastP turn))).length = beginOf near turn (leastP turn) := by rw [List.length_take]; omega
  have l2 : (turn.take (leastP turn)).length = leastP turn := by rw [List.length_take]; omega
  refine ⟨by omega, by rw [leastP_take h, l2], fun z => ?_, by omega⟩
  rw [l1] at z ⊢
  rw [l2, ix_take (by omega), ix_take (Nat.mod_lt _ hp)]
  exact g3 z
/-- a form told by itself -/
theorem form_again {nr tn : List Bool} (F : Form nr tn) : leastP tn = tn.length ∧ beginOf nr tn tn.length = nr.length := by
  refine ⟨F.per, begin_uni (Nat.le_refl _) (fun i h1 h2 => by omega) F.beg⟩
/-- a finite form: one round of one that is not marked -/
theorem form_fin {nr tn : List Bool} (F : Form nr tn) (h : idx tn = []) : tn = [false] := by
  have hall : ∀ i, i < tn.length → ix tn i = false := fun i hi => by
    cases q : ix tn i with
    | false => rfl
    | true => have := mem_idx.2 ⟨hi, q⟩; rw [h] at this; cases this
  have h1 : tn.length = 1 := by
    rcases Nat.lt_or_ge 1 tn.length with g | g
    · exfalso
      refine leastP_min (t := tn) (k := 1) (by omega) (by rw [F.per]; exact g) (Nat.mod_one _) fun i hi => ?_
      rw [hall i hi, Nat.mod_one, hall 0 (by omega)]
    · have := F.pos; omega
  apply ext_ix (by rw [h1]; rfl)
  intro i hi
  rw [hall i hi]
  have : i = 0 := by omega
  subst this
  rfl
theorem form_fin_begin {nr : List Bool} (F : Form nr [false]) : beginOf (maskOf 400 (idx nr)) [false] 1 = nr.length ∧ (maskOf 400 (idx nr)).take nr.length = nr := by
  have le : nr.length + 1 ≤ 400 := F.le
  refine ⟨begin_uni (by rw [mask_len]; omega) (fun i h1 h2 => ?_) (fun z => ?_), ?_⟩
  · rw [mask_len] at h2
    rw [ix_mask h2, Nat.mod_one]
    refine decide_eq_false fun z => ?_
    have := (mem_idx.1 z).1
    omega
  · have := F.beg z
    rw [ix_mask (by omega)]
    have q : ix nr (nr.length - 1) = true := by
      cases q : ix nr (nr.length - 1) with
      | true => rfl
      | false => exact absurd (by rw [q]; simp [Nat.mod_one, ix]) this
    rw [decide_eq_true (mem_idx.2 ⟨by omega, q⟩), Nat.mod_one]
    simp [ix]
  · apply ext_ix (by rw [List.length_take, mask_len]; omega)
    intro i hi
    rw [List.length_take, mask_len] at hi
    rw [ix_take (by omega), ix_mask (by omega)]
    cases h : ix nr i with
    | true => exact decide_eq_true (mem_idx.2 ⟨by omega, h⟩)
    | false => exact decide_eq_false fun z => by rw [(mem_idx.1 z).2] at h; cases h
/-- the marks below start and of the first round from it on -/
def marks (nr tn : List Bool) : List Bool := nr ++ (List.range tn.length).map fun i => ix tn ((nr.length + i) % tn.length)
theorem marks_len (nr tn : List Bool) : (marks nr tn).length = nr.length + tn.length := by simp [marks]
theorem marks_inj {nr tn nr' tn' : List Bool} (h : 0 < tn.length) (hb : nr.length = nr'.length) (e : marks nr tn = marks nr' tn') : nr = nr' ∧ tn = tn' := by
  have hl := congrArg List.length e
  rw [marks_len, marks_len] at hl
  have ht : tn.length = tn'.length := by omega
  obtain ⟨e1, e2⟩ := List.append_inj e hb
  refine ⟨e1, ?_⟩
  rw [← ht, ← hb] at e2
  apply ext_ix ht
  intro i hi
  have key : ∀ j, j < tn.length → ix tn ((nr.length + j) % tn.length) = ix tn' ((nr.length + j) % tn.length) := fun j hj => by
    have := List.map_inj_left.1 e2 j (List.mem_range.2 hj)
    exact this
  -- j with (b + j) % s = i
  have hm : nr.length % tn.length < tn.length := Nat.mod_lt _ h
  by_cases hc : nr.length % tn.length ≤ i
  · have := key (i - nr.length % tn.length) (by omega)
    have q : (nr.length + (i - nr.length % tn.length)) % tn.length = i := by
      rw [Nat.add_mod, Nat.mod_eq_of_lt (show i - nr.length % tn.length < tn.length by omega)]
      rw [show nr.length % tn.length + (i - nr.length % tn.length) = i by omega, Nat.mod_eq_of_lt hi]
    rw [q] at this
    exact this
  · have := key (i + tn.length - nr.length % tn.length) (by omega)
    have q : (nr.length + (i + tn.length - nr.length % tn.length)) % tn.length = i := by
      rw [Nat.add_mod, Nat.mod_eq_of_lt (show i + tn.length - nr.length % tn.length < tn.length by omega)]
      rw [show nr.length % tn.length + (i + tn.length - nr.length % tn.length) = i + tn.length by omega, Nat.add_mod_right, Nat.mod_eq_of_lt hi]
    rw [q] at this
    exact this
end Ln

/-! Texts of sets of lengths. Pure. -/
namespace L2
open PySem PySem.Spec
namespace Tx1
open TL Ln SX
abbrev spS : Str := S [32]
abbrev fromS : Str := S [102, 114, 111, 109]
abbrev byS : Str := S [98, 121]
abbrev atS : Str := S [97, 116]
abbrev noneS : Str := S [110, 111, 110, 101]
abbrev nS (n : Nat) : Str := dS ((n : Nat) : Int)
theorem nS_tl (n : Nat) : tl (nS n) = numL n := dS_nat n
theorem nS_dig (n : Nat) : ∀ c ∈ tl (nS n), 48 ≤ c ∧ c ≤ 57 := by
  intro c hc
  by_cases h1 : 48 ≤ c
  · by_cases h2 : c ≤ 57
    · exact ⟨h1, h2⟩
    · exact absurd hc (dS_free (by omega) (by omega) _)
  · by_cases h3 : c = 45
    · subst h3
      rw [nS_tl] at hc
      exact absurd hc (numL_no45 n)
    · exact absurd hc (dS_free h3 (by omega) _)
theorem nS_inj {a b : Nat} (h : nS a = nS b) : a = b := by
  have := dS_inj h
  omega
theorem nS_ne {n : Nat} {x : Str} {c : Nat} (hc : c ∈ tl x) (h : c < 48 ∨ 57 < c) : nS n ≠ x := fun z => by
  have := nS_dig n c (by rw [z]; exact hc)
  omega
theorem nS_from (n : Nat) : nS n ≠ fromS := nS_ne (c := 102) (by decide) (by decide)
theorem nS_none (n : Nat) : nS n ≠ noneS := nS_ne (c := 110) (by decide) (by decide)
def tailW (nr tn : List Bool) : List Str := if idx tn = [] then [] else fromS :: nS nr.length :: byS :: nS tn.length :: atS :: (idx tn).map nS
def wordsT (nr tn : List Bool) : List Str := (idx nr).map nS ++ tailW nr tn
def lnT (nr tn : List Bool) : Str := if wordsT nr tn = [] then noneS else Txt.join spS (wordsT nr tn)
theorem words_free (nr tn : List Bool) : ∀ p ∈ wordsT nr tn, ¬ 32 ∈ tl p := by
  have hn : ∀ n : Nat, ¬ 32 ∈ tl (nS n) := fun n h => by have := nS_dig n 32 h; omega
  intro p hp
  rcases List.mem_append.1 hp with h | h
  · obtain ⟨n, _, rfl⟩ := List.mem_map.1 h
    exact hn n
  · unfold tailW at h
    split at h
    · cases h
    · simp only [List.mem_cons] at h
      rcases h with rfl | rfl | rfl | rfl | rfl | h
      · decide
      · exact hn _
      · decide
      · exact hn _
      · decide
      · obtain ⟨n, _, rfl⟩ := List.mem_map.1 h
        exact hn n
theorem split_words {ws : List Str} (hne : ws ≠ []) (h : ∀ p ∈ ws, ¬ 32 ∈ tl p) : Txt.split (Txt.join spS ws) spS = ws := split_join (s := 32) (S := []) rfl (by decide +kernel) hne h
theorem split_lnT {nr tn : List Bool} (h : wordsT nr tn ≠ []) : Txt.split (lnT nr tn) spS = wordsT nr tn := by
  unfold lnT
  rw [if_neg h]
  exact split_words h (words_free nr tn)
theorem lnT_ne_none {nr tn : List Bool} (h : wordsT nr tn ≠ []) : lnT nr tn ≠ noneS := fun z => by
  have e := split_lnT h
  rw [z, show Txt.split noneS spS = [noneS] by decide +kernel] at e
  unfold wordsT at e
  cases hi : idx nr with
  | cons n r =>
    rw [hi] at e
    simp only [List.map_cons, List.cons_append] at e
    exact nS_none n (List.cons.inj e).1.symm
  | nil =>
    rw [hi] at e
    unfold tailW at e
    split at e
    · cases e
    · exact absurd (List.cons.inj e).1 (by decide)
theorem words_nil {nr tn : List Bool} (F : Form nr tn) (h : wordsT nr tn = []) : nr = [] ∧ tn = [false] := by
  unfold wordsT at h
  obtain ⟨h1, h2⟩ := List.append_eq_nil_iff.1 h
  have h3 : idx tn = [] := by
    unfold tailW at h2
    split at h2
    · assumption
    · cases h2
  have h4 := form_fin F h3
  subst h4
  refine ⟨?_, rfl⟩
  have e := (form_fin_begin F)
  rw [List.map_eq_nil_iff] at h1
  rw [h1] at e
  have e1 : beginOf (maskOf 400 []) [false] 1 = nr.length := e.1
  have e2 : beginOf (maskOf 400 []) [false] 1 = 0 := begin_uni (Nat.zero_le _) (fun i _ hi => by rw [mask_len] at hi; rw [ix_mask hi, Nat.mod_one]; simp [ix]) (fun z => absurd z (by decide))
  exact List.length_eq_zero_iff.1 (by omega)
theorem not_from {xs : List Nat} : ¬ fromS ∈ xs.map nS := fun h => by
  obtain ⟨n, _, e⟩ := List.mem_map.1 h
  exact nS_from n e
theorem map_nS_inj {xs ys : List Nat} (h : xs.map nS = ys.map nS) : xs = ys := List.map_inj_right (f := nS) (fun _ _ => nS_inj) |>.1 h
theorem cut_at {α : Type} {x : α} : ∀ {A A' R R' : List α}, ¬ x ∈ A → ¬ x ∈ A' → A ++ x :: R = A' ++ x :: R' → A = A' ∧ R = R'
  | [], [], _, _, _, _, e => ⟨rfl, (List.cons.inj e).2⟩
  | [], b :: B, _, _, _, h, e => absurd (by rw [(List.cons.inj e).1]; exact .head _) h
  | a :: A, [], _, _, h, _, e => absurd (by rw [← (List.cons.inj e).1]; exact .head _) h
  | a :: A, b :: B, _, _, h, h', e => by
    obtain ⟨e1, e2⟩ := List.cons.inj e
    obtain ⟨r1, r2⟩ := cut_at (fun z => h (.tail _ z)) (fun z => h' (.tail _ z)) e2
    exact ⟨by rw [e1, r1], r2⟩
theorem lnT_inj {nr tn nr' tn' : List Bool} (F : Form nr tn) (G : Form nr' tn') (h : lnT nr tn = lnT nr' tn') : nr = nr' ∧ tn = tn' := by
  by_cases h1 : wordsT nr tn = []
  · by_cases h2 : wordsT nr' tn' = []
    · obtain ⟨a, b⟩ := words_nil F h1
      obtain ⟨c, d⟩ := words_nil G h2
      exact ⟨a.trans c.symm, b.trans d.symm⟩
    · have := lnT_ne_none h2
      rw [← h] at this
      exact absurd (by unfold lnT; rw [if_pos h1]) this
  · by_cases h2 : wordsT nr' tn' = []
    · have := lnT_ne_none h1
      rw [h] at this
      exact absurd (by unfold lnT; rw [if_pos h2]) this
    · have e : wordsT nr tn = wordsT nr' tn' := by rw [← split_lnT h1, ← split_lnT h2, h]
      unfold wordsT tailW at e
      by_cases i1 : idx tn = []
      · rw [if_pos i1, List.append_nil] at e
        by_cases i2 : idx tn' = []
        · rw [if_pos i2, List.append_nil] at e
          have e := map_nS_inj e
          have t1 := form_fin F i1
          have t2 := form_fin G i2
          subst t1
          subst t2
          refine ⟨?_, rfl⟩
          obtain ⟨a1, a2⟩ := form_fin_begin F
          obtain ⟨b1, b2⟩ := form_fin_begin G
          rw [← a2, ← b2, ← a1, ← b1, e]
        · rw [if_neg i2] at e
          exact absurd (by rw [e]; simp) (not_from (xs := idx nr))
      · rw [if_neg i1] at e
        by_cases i2 : idx tn' = []
        · rw [if_pos i2, List.append_nil] at e
          exact absurd (by rw [← e]; simp) (not_from (xs := idx nr'))
        · rw [if_neg i2] at e
          obtain ⟨e1, e2⟩ := cut_at not_from not_from e
          have f1 := nS_inj (List.cons.inj e2).1
          have e3 := (List.cons.inj (List.cons.inj e2).2).2
          have f2 := nS_inj (List.cons.inj e3).1
          have e4 := (List.cons.inj (List.cons.inj e3).2).2
          exact ⟨idx_inj f1 (map_nS_inj e1), idx_inj f2 (map_nS_inj e4)⟩
end Tx1
end L2

/-! Lengths: which numbers are in; the same numbers are one form. -/
namespace Ln
def inL (nr tn : List Bool) (x : Int) : Bool := if x < 0 then false else if x < (nr.length : Int) then ix nr x.toNat else ix tn (x % (tn.length : Int)).toNat
theorem inL_neg {nr tn : List Bool} {x : Int} (h : x < 0) : inL nr tn x = false := by unfold inL; rw [if_pos h]
theorem inL_nat {nr tn : List Bool} (n : Nat) : inL nr tn (n : Int) = if n < nr.length then ix nr n else ix tn (n % tn.length) := by
  unfold inL
  rw [if_neg (by omega)]
  by_cases h : n < nr.length
  · rw [if_pos h, if_pos (by omega), Int.toNat_natCast]
  · rw [if_neg h, if_neg (by omega), ← Int.natCast_emod, Int.toNat_natCast]
theorem ix_marks_lo {nr tn : List Bool} {i : Nat} (h : i < nr.length) : ix (marks nr tn) i = ix nr i := by
  unfold ix marks
  rw [List.getD_eq_getElem?_getD, List.getElem?_append_left h, ← List.getD_eq_getElem?_getD]
theorem ix_marks_hi {nr tn : List Bool} {m : Nat} (h : m < tn.length) : ix (marks nr tn) (nr.length + m) = ix tn ((nr.length + m) % tn.length) := by
  unfold ix marks
  rw [List.getD_eq_getElem?_getD, List.getElem?_append_right (by omega), Nat.add_sub_cancel_left, List.getElem?_map, List.getElem?_range h]
  rfl
theorem mod_nat (x : Int) {s : Nat} (h : 0 < s) : ∃ m : Nat, x % (s : Int) = m ∧ m < s := by
  have h0 := Int.emod_nonneg x (show (s : Int) ≠ 0 by omega)
  have h1 := Int.emod_lt_of_pos x (show (0 : Int) < s by omega)
  exact ⟨(x % (s : Int)).toNat, by omega, by omega⟩
theorem hi_eq {b s m : Nat} {i : Int} (h : (i - (b : Int)) % (s : Int) = m) : (b + m) % s = (i % (s : Int)).toNat := by
  have e : (((b + m) % s : Nat) : Int) = i % (s : Int) := by
    rw [Int.natCast_emod, Int.natCast_add, ← h, Int.add_emod_emod]
    congr 1
    omega
  omega
theorem inL_form {near turn : List Bool} (h : 0 < turn.length) (n : Nat) : inL (near.take (beginOf near turn (leastP turn))) (turn.take (leastP turn)) (n : Int) = if n < near.length then ix near n else ix turn (n % turn.length) := by
  obtain ⟨b1, b2, b3⟩ := begin_spec near turn (leastP turn)
  obtain ⟨p1, p2⟩ := leastP_per h
  have ple := leastP_le turn
  have pp := leastP_pos h
  rw [inL_nat, List.length_take, List.length_take, Nat.min_eq_left b1, Nat.min_eq_left ple]
  generalize leastP turn = s at *
  generalize beginOf near turn s = b at *
  have hm := Nat.mod_lt n pp
  by_cases h1 : n < b
  · rw [if_pos h1, if_pos (by omega), ix_take h1]
  · rw [if_neg h1, ix_take hm]
    by_cases h2 : n < near.length
    · rw [if_pos h2, b2 n (by omega) h2]
    · rw [if_neg h2, p2 (n % turn.length) (Nat.mod_lt _ h), Nat.mod_mod_of_dvd _ (Nat.dvd_of_mod_eq_zero p1)]
/-! ### periods of all numbers -/
def Prd (f : Nat → Bool) (p : Nat) : Prop := ∀ n, f (n + p) = f n
theorem Prd.mul {f : Nat → Bool} {p : Nat} (h : Prd f p) (n : Nat) : ∀ k, f (n + k * p) = f n
  | 0 => by rw [Nat.zero_mul]; rfl
  | k + 1 => by rw [Nat.succ_mul, ← Nat.add_assoc, h, h.mul n k]
theorem Prd.mul' {f : Nat → Bool} {p : Nat} (h : Prd f p) (k : Nat) : Prd f (k * p) := fun n => h.mul n k
theorem Prd.dvd {f : Nat → Bool} {p q : Nat} (h : Prd f p) (d : p ∣ q) : Prd f q := by
  obtain ⟨k, rfl⟩ := d
  rw [Nat.mul_comm]
  exact h.mul' k
theorem Prd.gcd {f : Nat → Bool} {p q : Nat} : Prd f p → Prd f q → Prd f (Nat.gcd p q) := by
  induction p, q using Nat.gcd.induction with
  | H0 n => intro _ h; rw [Nat.gcd_zero_left]; exact h
  | H1 m n hm ih =>
    intro h k
    rw [Nat.gcd_rec]
    refine ih (fun x => ?_) h
    rw [← h.mul (x + n % m) (n / m), Nat.add_assoc, show n % m + n / m * m = n by rw [Nat.mul_comm]; exact Nat.mod_add_div n m, k]
theorem Prd.mod {f : Nat → Bool} {p : Nat} (h : Prd f p) (n : Nat) : f (n % p) = f n := by
  have := h.mul (n % p) (n / p)
  rw [Nat.mul_comm, Nat.mod_add_div] at this
  exact this.symm
theorem prd_tail (t : List Bool) : Prd (fun n => ix t (n % t.length)) t.length := fun n => by
  dsimp only
  rw [Nat.add_mod_right]
theorem len_of_prd {t : List Bool} (pos : 0 < t.length) (per : leastP t = t.length) {q : Nat} (hq : 0 < q) (h : Prd (fun n => ix t (n % t.length)) q) : t.length ∣ q := by
  have g := Prd.gcd (prd_tail t) h
  have gd := Nat.gcd_dvd_left t.length q
  have gq := Nat.gcd_dvd_right t.length q
  have gp : 0 < Nat.gcd t.length q := Nat.gcd_pos_of_pos_left _ pos
  have gl := Nat.le_of_dvd pos gd
  rcases Nat.lt_or_ge (Nat.gcd t.length q) t.length with z | z
  · exfalso
    refine leastP_min (t := t) gp (by rw [per]; exact z) (Nat.mod_eq_zero_of_dvd gd) fun i hi => ?_
    have e := g.mod i
    have hm := Nat.mod_lt i gp
    rw [Nat.mod_eq_of_lt hi, Nat.mod_eq_of_lt (show i % Nat.gcd t.length q < t.length by omega)] at e
    exact e.symm
  · have : Nat.gcd t.length q = t.length := by omega
    rw [this] at gq
    exact gq
theorem form_uniq {nr tn nr' tn' : List Bool} (F : Form nr tn) (G : Form nr' tn') (h : ∀ n : Nat, inL nr tn (n : Int) = inL nr' tn' (n : Int)) : nr = nr' ∧ tn = tn' := by
  have f1 := F.pos; have g1 := G.pos
  have all : ∀ n, ix tn (n % tn.length) = ix tn' (n % tn'.length) := by
    intro n
    have P := (prd_tail tn).mul' tn'.length
    have P' := (prd_tail tn').mul' tn.length
    have e1 := P.mul n (nr.length + nr'.length)
    have e2 := P'.mul n (nr.length + nr'.length)
    rw [Nat.mul_comm tn.length] at e2
    have big : nr.length + nr'.length ≤ n + (nr.length + nr'.length) * (tn'.length * tn.length) := by
      have : 1 ≤ tn'.length * tn.length := Nat.mul_pos g1 f1
      have := Nat.mul_le_mul_left (nr.length + nr'.length) this
      omega
    have e := h (n + (nr.length + nr'.length) * (tn'.length * tn.length))
    rw [inL_nat, inL_nat, if_neg (by omega), if_neg (by omega), e1, e2] at e
    exact e
  have P2 : Prd (fun n => ix tn (n % tn.length)) tn'.length := fun n => by
    dsimp only
    rw [all, all, Nat.add_mod_right]
  have P3 : Prd (fun n => ix tn' (n % tn'.length)) tn.length := fun n => by
    dsimp only
    rw [← all, ← all, Nat.add_mod_right]
  have hl : tn.length = tn'.length := Nat.dvd_antisymm (len_of_prd f1 F.per g1 P2) (len_of_prd g1 G.per f1 P3)
  have ht : tn = tn' := ext_ix hl fun i hi => by
    have := all i
    rw [Nat.mod_eq_of_lt hi, Nat.mod_eq_of_lt (by omega)] at this
    exact this
  subst ht
  have hb : nr.length = nr'.length := by
    rcases Nat.lt_trichotomy nr.length nr'.length with z | z | z
    · exfalso
      have e := h (nr'.length - 1)
      rw [inL_nat, inL_nat, if_neg (by omega), if_pos (by omega)] at e
      exact G.beg (by omega) e.symm
    · exact z
    · exfalso
      have e := h (nr.length - 1)
      rw [inL_nat, inL_nat, if_pos (by omega), if_neg (by omega)] at e
      exact F.beg (by omega) e
  refine ⟨ext_ix hb fun i hi => ?_, rfl⟩
  have e := h i
  rw [inL_nat, inL_nat, if_pos hi, if_pos (by omega)] at e
  exact e
theorem inL_add {nr tn : List Bool} {n L : Nat} (h : nr.length ≤ n) (d : tn.length ∣ L) : inL nr tn ((n + L : Nat) : Int) = inL nr tn (n : Int) := by
  rw [inL_nat, inL_nat, if_neg (by omega), if_neg (by omega)]
  exact (prd_tail tn).dvd d n
/-- what comes round from b on by L has a form within -/
theorem form_within {r u : List Bool} (G : Form r u) {b L : Nat} (hL : 0 < L) (h : ∀ n : Nat, b ≤ n → inL r u ((n + L : Nat) : Int) = inL r u (n : Int)) : r.length ≤ b ∧ u.length ∣ L := by
  have g1 := G.pos
  have P : Prd (fun n => ix u (n % u.length)) L := fun n => by
    have T := prd_tail u
    have e1 := T.mul n (b + r.length)
    have e2 := T.mul (n + L) (b + r.length)
    have big : b + r.length ≤ (b + r.length) * u.length := Nat.le_mul_of_pos_right _ g1
    have e := h (n + (b + r.length) * u.length) (by omega)
    rw [inL_nat, inL_nat, if_neg (by omega), if_neg (by omega)] at e
    rw [show n + (b + r.length) * u.length + L = n + L + (b + r.length) * u.length by omega] at e
    exact e2.symm.trans (e.trans e1)
  refine ⟨?_, len_of_prd g1 G.per hL P⟩
  rcases Nat.lt_or_ge b r.length with z | z
  · exfalso
    have e := h (r.length - 1) (by omega)
    rw [inL_nat, inL_nat, if_neg (by omega), if_pos (by omega)] at e
    exact G.beg (by omega) (e.symm.trans (P (r.length - 1)))
  · exact z
/-! ### told by what is asked of each number -/
def lowOf (P : Nat → Bool) (st : Nat) : List Nat := (List.range st).filter P
def resOf (P : Nat → Bool) (st p : Nat) : List Nat := (((List.range (st + p)).filter P).filter fun n => decide (st ≤ n)).map (· % p)
theorem mem_res {P : Nat → Bool} {st p : Nat} (hp : 0 < p) (hP : ∀ n, st ≤ n → P (n + p) = P n) {n : Nat} (hn : st ≤ n) : n % p ∈ resOf P st p ↔ P n = true := by
  have rep : ∀ m k, st ≤ m → P (m + k * p) = P m := fun m k hm => by
    induction k with
    | zero => rw [Nat.zero_mul]; rfl
    | succ k ih => rw [Nat.succ_mul, ← Nat.add_assoc, hP _ (by omega), ih]
  have same : ∀ m, st ≤ m → m % p = n % p → P m = P n := fun m hm e => by
    have a := Nat.mod_add_div m p
    have b := Nat.mod_add_div n p
    rcases Nat.le_total (m / p) (n / p) with z | z
    · have : n = m + (n / p - m / p) * p := by
        rw [Nat.sub_mul]
        have := Nat.mul_le_mul_right p z
        rw [Nat.mul_comm] at a b
        omega
      rw [this, rep m _ hm]
    · have : m = n + (m / p - n / p) * p := by
        rw [Nat.sub_mul]
        have := Nat.mul_le_mul_right p z
        rw [Nat.mul_comm] at a b
        omega
      rw [this, rep n _ hn]
  unfold resOf
  rw [List.mem_map]
  constructor
  · rintro ⟨m, hm, e⟩
    rw [List.mem_filter, List.mem_filter] at hm
    rw [← same m (of_decide_eq_true hm.2) e]
    exact hm.1.2
  · intro h
    have hd := Nat.mod_lt (n - st) hp
    refine ⟨st + (n - st) % p, ?_, ?_⟩
    · rw [List.mem_filter, List.mem_filter, List.mem_range]
      refine ⟨⟨by omega, ?_⟩, decide_eq_true (by omega)⟩
      rw [same _ (by omega) ?_]
      · exact h
      · rw [Nat.add_mod_mod]
        congr 1
        omega
    · rw [Nat.add_mod_mod]
      congr 1
      omega
theorem low_of {P : Nat → Bool} {st p : Nat} : ((List.range (st + p)).filter P).filter (fun n => decide (n < st)) = lowOf P st := by
  unfold lowOf
  rw [List.range_add, List.filter_append, List.filter_append, List.filter_filter]
  have e1 : (List.range st).filter (fun a => decide (a < st) && P a) = (List.range st).filter P := List.filter_congr fun a ha => by rw [decide_eq_true (List.mem_range.1 ha), Bool.true_and]
  have e2 : (((List.range p).map (st + ·)).filter P).filter (fun n => decide (n < st)) = [] := List.filter_eq_nil_iff.2 fun a ha => by
    obtain ⟨b, _, rfl⟩ := List.mem_map.1 (List.mem_filter.1 ha).1
    rw [decide_eq_true_eq]
    omega
  rw [e1, e2, List.append_nil]
end Ln

/-! C(.., k = v) at the abstract layer. -/
namespace L2
open PySem PySem.Spec PyProof.Rows
/-- o.m(k = v, ..), no positional argument -/
def tMethKW (C : Addr) (m : Str) (b : Nat) (sp : Sp) (gV : List V → List V → List V) (E : XK) (ta : TE) (tk : TA) : TE := fun σ H Q => ta σ H fun x H1 => ∃ a dx fs, x = .ref a ∧ H1 a = some (.ins C dx fs) ∧ fs.lookup m = none ∧ tk σ H1 fun zs H2 => zs.length = b ∧ sp (gV [x] zs) H2 Q E
section
variable {X : Cx} {CX : CXT} {k : Nat} {f C : Addr} {fd : FuncData} {ps ks : List Str} {sp : Sp} {E : XK} {m : Str} {apos pos : Pos} {o : Expr} {kws : List Keyword} {ta : TE} {tk : TA} {g : List Value → List Value → List Value} {gV : List V → List V → List V}
theorem pe_methKW {pl : Sem Bool} (he : PE X o ta) (c : Cls X.K C) (hm : Meth X.K C m f) (F : FnOk X.prog X.w X.K X.mg X.base CX k f fd ps sp) (hr : Room k X.A) (hb : KBn X.K fd ps 1 ks g gV) (hx : Passes CX X E) (hkw : PK X kws tk)
    (hall : (backToKw pos (keywordEach kws X.env)).all (·.1.isSome) = true := by rfl) (hks : (backToKw pos (keywordEach kws X.env)).filterMap (·.1) = ks := by rfl)
    (hpl : ((backTo pos (starEach [] X.env)).any (·.1) || (backToKw pos (keywordEach kws X.env)).any (·.1.isNone)) = false := by rfl)
    (ht : eval (.Call (.Attribute o m apos) [] kws pos) X.env = (do
      let ov ← eval o X.env
      standAt apos.atName
      let (fn, first) ← holding [ov] (getMethod ov m pl)
      callWith pos fn first (backTo pos (starEach [] X.env)) (backToKw pos (keywordEach kws X.env))) := by rfl) :
    PE X (.Call (.Attribute o m apos) [] kws pos) (tMethKW C m ks.length sp gV E ta tk) := by
  refine ⟨fun pins s σ H Q I h => ?_⟩
  refine PySem.W.methodCall_KW (pl := pl) (thn (he.run pins s σ H _ I h) fun u s1 ⟨x, H1, I1, rx, a, dx, fs, ex, ea, l, q⟩ => ?_) ht
  subst ex
  cases (show u = Value.ref a from rx)
  refine getmeth_ok I1 ea c hm l ?_
  refine PySem.W.callWith_KW0 (first := [.ref a]) (h₀ := X.base) I1.ok.mod.kin hm.kp hall ?_ hpl
  refine thn (hkw.run pos pins s1 σ H1 _ I1 q) fun ws s2 ⟨zs, H2, I2, rz, lz, q2⟩ => ⟨I2.kIn, ?_⟩
  rw [hks]
  have r1 : Vals [V.ref a] [Value.ref a] := .cons rfl .nil
  have lw : ws.length = ks.length := rz.length.symm.trans lz
  refine wpAny_call (codeAny_mono (F.run X.A X.stack s2 H2 ⟨[.ref a], ks.zip ws⟩ (g [.ref a] ws) (gV [.ref a] zs) Q E hr I2.env0 (hb.to s2 [.ref a] ws I2.kIn rfl lw) (hb.rel r1 rz) q2) fun r s' hq => ?_)
  cases r with
  | error e => exact hx pins σ H2 s2 e s' I2 hq
  | ok fl =>
    cases fl with
    | ret u => exact I2.after hq
    | next => exact False.elim hq
    | brk => exact False.elim hq
    | cont => exact False.elim hq
end
end L2
namespace AW
open PySem PySem.Spec PyProof.Rows L2
section
variable {c : Cw} {kn : Hp} {n : Nat} {σ : L2.St} {Q : V → Hp → Nat → Prop} {E : XK} {EA : EAK} {B : List V → Hp → AK → AXK → Prop} {C : Addr} {a b : Nat} {gV : List V → List V → List V} {t tk : TA}
theorem w_makeN (hm : MonoX B) (hE : ErrOk c EA E) (h : W c (t σ) kn n fun vs kn1 n1 => W c (tk σ) kn1 n1 fun zs kn2 n2 => vs.length = a ∧ zs.length = b ∧ ∀ x dx, kn2 x = none → kn2 dx = none → dx ≠ x →
    B (gV (.ref x :: vs) zs) (upd (upd kn2 dx (.own x)) x (.ins C dx [])) (fun v k => v = .non ∧ Q (.ref x) k n2) (fun cls d k => EA cls d k n2)) : W c (tMakeN C a b (liftX B) gV E t tk σ) kn n Q :=
  fun H g Q' q => h H g _ fun vs kn1 n1 H1 h1 g1 => h1 H1 g1 _ fun zs kn2 n2 H2 ⟨l1, l2, h2⟩ g2 => ⟨l1, l2, fun x dx hx hdx hne => by
    have hx2 : upd H2 dx (.own x) x = none := by rw [upd_ne (Ne.symm hne)]; exact hx
    exact sp_call (c := c) (n := n2) (Q := fun v k m => v = .non ∧ Q (.ref x) k m) hm hE (h2 x dx (g2.free hx) (g2.free hdx) hne) _ ((g2.new hdx).new hx2) (fun v H3 => v = .non ∧ Q' (.ref x) H3) fun v k m H3 hq g3 => ⟨hq.1, q _ _ _ _ hq.2 g3⟩⟩
theorem w_makeK (hm : MonoX B) (hE : ErrOk c EA E) (h : W c (t σ) kn n fun vs kn1 n1 => W c (tk σ) kn1 n1 fun zs kn2 n2 => vs.length = a ∧ zs.length = b ∧ ∀ x dx, kn2 x = none → kn2 dx = none → dx ≠ x →
    B (gV (.ref x :: vs) zs) (upd (upd kn2 dx (.own x)) x (.ins C dx [])) (fun v k => v = .non ∧ Q (.ref x) k n2) (fun cls d k => EA cls d k n2)) : W c (tMakeK C a b (liftX B) gV E t tk σ) kn n Q :=
  fun H g Q' q => h H g _ fun vs kn1 n1 H1 h1 g1 => h1 H1 g1 _ fun zs kn2 n2 H2 ⟨l1, l2, h2⟩ g2 => ⟨l1, l2, fun x dx hx hdx hne => by
    have hx2 : upd H2 dx (.own x) x = none := by rw [upd_ne (Ne.symm hne)]; exact hx
    exact sp_call (c := c) (n := n2) (Q := fun v k m => v = .non ∧ Q (.ref x) k m) hm hE (h2 x dx (g2.free hx) (g2.free hdx) hne) _ ((g2.new hdx).new hx2) (fun v H3 => v = .non ∧ Q' (.ref x) H3) fun v k m H3 hq g3 => ⟨hq.1, q _ _ _ _ hq.2 g3⟩⟩
theorem w_methKW {m : Str} {ta : TE} (hm : MonoX B) (hE : ErrOk c EA E) (h : W c (ta σ) kn n fun x kn1 n1 => ∃ a dx fs, x = .ref a ∧ kn1 a = some (.ins C dx fs) ∧ fs.lookup m = none ∧
    W c (tk σ) kn1 n1 fun zs kn2 n2 => zs.length = b ∧ B (gV [.ref a] zs) kn2 (fun v k => Q v k n2) (fun cls d k => EA cls d k n2)) : W c (tMethKW C m b (liftX B) gV E ta tk σ) kn n Q :=
  fun H g Q' q => h H g _ fun x kn1 n1 H1 h1 g1 => by
    obtain ⟨a, dx, fs, rfl, ha, hl, h2⟩ := h1
    exact ⟨a, dx, fs, rfl, g1.ex _ _ ha, hl, h2 H1 g1 _ fun zs kn2 n2 H2 ⟨lz, h3⟩ g2 => ⟨lz, sp_call hm hE h3 H2 g2 Q' q⟩⟩
end
end AW

/-! Pieces that several laws' own defs have. -/
namespace AW
open PySem PySem.Spec L2 LamX
section
variable {c : Cw} {kn : Hp} {n : Nat} {σ : L2.St} {Q : V → Hp → Nat → Prop} {K : PySem.W.Frag}
/-- a value that changes nothing -/
theorem w_pure {t : TE} (v0 : V) (h : W c (t σ) kn n fun v k m => v = v0 ∧ k = kn ∧ m = n) (q : Q v0 kn n) : W c (t σ) kn n Q :=
  h.mono fun v k m ⟨e1, e2, e3⟩ => by subst e1 e2 e3; exact q
theorem w_revL {te : TE} (h : W c (te σ) kn n fun x kn1 n1 => ∃ a xs, x = .ref a ∧ kn1 a = some (.lst xs) ∧ ∀ p, kn1 p = none → Q (.ref p) (upd kn1 p (.lst xs.reverse)) n1) : W c (tRevL K te σ) kn n Q :=
  fun H g Q' q => h H g _ fun x kn1 n1 H1 ⟨a, xs, e, hx, hq⟩ g1 => ⟨a, xs, e, sql (g1.ex _ _ hx), fun p hp => q _ _ _ _ (hq p (g1.free hp)) (g1.new hp)⟩
end
/-- [n for n in range(s) if draw(pen, 2) == 0] -/
theorem w_lcOver {p a : Addr} {ns : List Int} {TT : List (Addr × Str)} {kn : Hp} {n : Nat} {σ : L2.St} {Q : V → Hp → Nat → Prop} {s jp js m : Nat} (h4 : σ[js]? = some (some (.int (s : Int)))) (h1 : ∀ v : V, ((wipe σ [m]).set m (some v))[jp]? = some (some (.ref p))) (h6 : ∀ v : V, ((wipe σ [m]).set m (some v))[m]? = some (some v)) (hw : ∀ v : V, wipe ((wipe σ [m]).set m (some v)) [m] = wipe σ [m])
    (hs : s ≤ 100) (hn : n + s + 1 < 1000000)
    (h : ∀ (D : Addr) (ys : List Nat) (n' : Nat), kn D = none → (∀ y ∈ ys, y < s) → ys.length ≤ s → n' ≤ n + s → Q (.ref D) (upd kn D (.lst (ys.map fun (i : Nat) => V.int i))) n') :
    W (penC p a ns TT) (tLc (iRng1 (tCons (tVar js) tNil)) (gName m) (tTest (tOp rEq (tCall spDraw [] E0 (tCons (tVar jp) (tCons (tC (.int 2)) tNil))) (tC (.int 0)))) (tVar m) [m] σ) kn n Q := by
  refine w_lc (i_rng1 (w_cons (w_var h4 (w_nil ⟨_, rfl, by omega, by omega, ?_⟩))))
  rw [Int.toNat_natCast]
  refine ⟨_, (fun _ => True), fun D i acc k m => k = upd kn D (.lst acc) ∧ kn D = none ∧ m ≤ n + i ∧ i ≤ s ∧ ∃ ys : List Nat, acc = (ys.map fun (i : Nat) => V.int i) ∧ ys.length ≤ i ∧ ∀ y ∈ ys, y < s, gives_rng, by rw [List.length_map, List.length_range]; omega, fun D hD => ⟨rfl, hD, by omega, by omega, [], rfl, Nat.le_refl 0, fun y hy => (by cases hy)⟩, ?_, ?_, ?_⟩
  · rintro D i acc k m ⟨rfl, hD, _, _, ys, rfl, hl, _⟩
    exact ⟨trivial, upd_same, by rw [List.length_map]; exact hl⟩
  · rintro D i acc x k m hx ⟨rfl, hD, hm, _, ys, rfl, hl, hy⟩
    have hi : i < s := by
      have := (List.getElem?_eq_some_iff.1 hx).1
      rw [List.length_map, List.length_range] at this
      exact this
    obtain rfl : x = V.int (i : Int) := by
      rw [List.getElem?_map, List.getElem?_range hi] at hx
      rw [← Option.some.inj hx]
      exact congrArg V.int (show (0 : Int) + ((i : Nat) : Int) = ((i : Nat) : Int) by omega)
    refine g_name ⟨hw _, w_test (w_op (w_draw (w_cons (w_var (h1 _) (w_cons (w_c (w_nil ⟨2, rfl, by omega, by decide, by decide, fun k2 k20 k21 => w_c (r_eq rfl ⟨_, rfl, fun _ => ?_, fun _ => ?_⟩)⟩)))))))⟩
    · refine w_var (h6 _) ⟨upd_same, ?_, hD, by omega, by omega, ys ++ [i], by rw [List.map_append]; rfl, by rw [List.length_append]; show _ + 1 ≤ _; omega, fun y hy2 => ?_⟩
      · funext b
        by_cases hb : b = D
        · rw [hb, upd_same, upd_same]
        · rw [upd_ne hb, upd_ne hb, upd_ne hb]
      · rcases List.mem_append.1 hy2 with z | z
        · exact hy y z
        · rw [List.mem_singleton.1 z]
          exact hi
    · exact ⟨rfl, hD, by omega, by omega, ys, rfl, by omega, hy⟩
  · rintro D acc k m ⟨rfl, hD, hm, hs2, ys, rfl, hl, hy⟩
    rw [List.length_map, List.length_range] at hm hl
    exact h D ys m hD hy (by omega) (by omega)
section
variable {c : Cw} {kn : Hp} {n : Nat} {σ : L2.St} {Q : V → Hp → Nat → Prop}
/-- a comprehension without a test that changes nothing, its items one by one -/
theorem w_lcV {wi : TI} {gt : TG} {te : TE} {vs : List Nat}
    (h : WI c (wi σ) kn n fun J kn1 n1 => ∃ (xs : List V) (ka : Hp → Prop) (ys : List V), Gives J xs ka ∧ xs.length ≤ 100000 ∧ ys.length = xs.length ∧ (∀ k, Ext kn1 k → ka k) ∧
      (∀ (i : Nat) (x y : V), xs[i]? = some x → ys[i]? = some y → ∀ k, Ext kn1 k → WG c gt x (wipe σ vs) k n1 fun σ2 k2 n2 => k2 = k ∧ n2 = n1 ∧ wipe σ2 vs = wipe σ vs ∧ W c (te σ2) k n1 fun v k4 n4 => v = y ∧ k4 = k ∧ n4 = n1) ∧
      ∀ D, kn1 D = none → Q (.ref D) (upd kn1 D (.lst ys)) n1) : W c (tLc wi gt tYes te vs σ) kn n Q := by
  refine w_lc (fun H g R' q => h H g R' fun J kn1 n1 H1 hJ g1 => q J kn1 n1 H1 ?_ g1)
  obtain ⟨xs, ka, ys, hG, hl, hy, hk, hs, hd⟩ := hJ
  have e1 : ∀ {k : Hp} {D : Addr} {o : HO}, k D = none → Ext k (upd k D o) := fun h x u e => know h e
  refine ⟨xs, ka, fun D i acc k m => m = n1 ∧ kn1 D = none ∧ acc = ys.take i ∧ k = upd kn1 D (.lst acc), hG, hl, fun D hD => ⟨rfl, hD, by simp, rfl⟩, ?_, ?_, ?_⟩
  · rintro D i acc k m ⟨rfl, hD, rfl, rfl⟩
    exact ⟨hk _ (e1 hD), upd_same, by rw [List.length_take]; exact Nat.min_le_left _ _⟩
  · rintro D i acc x k m hx ⟨rfl, hD, rfl, rfl⟩
    have hi : i < ys.length := by rw [hy]; exact (List.getElem?_eq_some_iff.1 hx).1
    intro H g N' f'
    refine hs i x _ hx (List.getElem?_eq_getElem hi) _ (e1 hD) H g N' fun σ2 k2 n2 H2 hq g2 => f' σ2 k2 n2 H2 ?_ g2
    obtain ⟨rfl, rfl, hw, hq⟩ := hq
    refine ⟨hw, w_yesT ⟨fun _ => hq.mono fun y k4 n4 hy2 => ?_, fun z => nomatch z⟩⟩
    obtain ⟨rfl, rfl, rfl⟩ := hy2
    refine ⟨upd_same, rfl, hD, ?_, ?_⟩
    · rw [List.take_add_one, List.getElem?_eq_getElem hi]; rfl
    · funext z
      by_cases hz : z = D
      · rw [hz, upd_same, upd_same]
      · rw [upd_ne hz, upd_ne hz, upd_ne hz]
  · rintro D acc k m ⟨rfl, hD, rfl, rfl⟩
    rw [← hy, List.take_length]
    exact hd D hD
/-- a comprehension without a test whose items are made anew -/
theorem w_lcN {wi : TI} {gt : TG} {te : TE} {vs : List Nat} (R : Nat → V → Hp → Prop) (hE : ∀ i v k k', Ext k k' → R i v k → R i v k') (hP : ∀ i v k D zs o, k D = some (.lst zs) → R i v k → R i v (upd k D o))
    (h : WI c (wi σ) kn n fun J kn1 n1 => ∃ (xs : List V) (ka : Hp → Prop), Gives J xs ka ∧ xs.length ≤ 100000 ∧ (∀ k, Ext kn1 k → ka k) ∧
      (∀ (i : Nat) (x : V), xs[i]? = some x → ∀ k, Ext kn1 k → WG c gt x (wipe σ vs) k n1 fun σ2 k2 n2 => k2 = k ∧ n2 = n1 ∧ wipe σ2 vs = wipe σ vs ∧ W c (te σ2) k n1 fun v k4 n4 => n4 = n1 ∧ Ext k k4 ∧ R i v k4) ∧
      ∀ D k (ys : List V), Ext kn1 k → kn1 D = none → k D = some (.lst ys) → ys.length = xs.length → (∀ (i : Nat) (y : V), ys[i]? = some y → R i y k) → Q (.ref D) k n1) : W c (tLc wi gt tYes te vs σ) kn n Q := by
  refine w_lc (fun H g R' q => h H g R' fun J kn1 n1 H1 hJ g1 => q J kn1 n1 H1 ?_ g1)
  obtain ⟨xs, ka, hG, hl, hk, hs, hd⟩ := hJ
  have e1 : ∀ {k : Hp} {D : Addr} {o : HO}, k D = none → Ext k (upd k D o) := fun h x u e => know h e
  refine ⟨xs, ka, fun D i acc k m => m = n1 ∧ kn1 D = none ∧ Ext kn1 k ∧ k D = some (.lst acc) ∧ acc.length = i ∧ ∀ (j : Nat) (y : V), acc[j]? = some y → R j y k, hG, hl, fun D hD => ⟨rfl, hD, e1 hD, upd_same, rfl, fun j y hj => (by cases hj)⟩, ?_, ?_, ?_⟩
  · rintro D i acc k m ⟨rfl, hD, ek, kD, hl, hr⟩
    exact ⟨hk _ ek, kD, Nat.le_of_eq hl⟩
  · rintro D i acc x k m hx ⟨rfl, hD, ek, kD, hl, hr⟩
    intro H g N' f'
    refine hs i x hx _ ek H g N' fun σ2 k2 n2 H2 hq g2 => f' σ2 k2 n2 H2 ?_ g2
    obtain ⟨rfl, rfl, hw, hq⟩ := hq
    refine ⟨hw, w_yesT ⟨fun _ => hq.mono fun y k4 n4 hy2 => ?_, fun z => nomatch z⟩⟩
    obtain ⟨rfl, e4, hy⟩ := hy2
    have kD4 := e4 _ _ kD
    refine ⟨kD4, rfl, hD, fun z o hz => ?_, upd_same, by rw [List.length_append, hl]; rfl, fun j y' hj => ?_⟩
    · rw [upd_ne (fun e => by rw [e, hD] at hz; cases hz)]
      exact e4 _ _ (ek _ _ hz)
    · refine hP _ _ _ _ _ _ kD4 ?_
      rcases Nat.lt_or_ge j acc.length with z | z
      · rw [List.getElem?_append_left z] at hj
        exact hE _ _ _ _ e4 (hr j y' hj)
      · rw [List.getElem?_append_right z] at hj
        have : j - acc.length = 0 := by
          rcases Nat.eq_zero_or_pos (j - acc.length) with e | e
          · exact e
          · rw [List.getElem?_eq_none (by show 1 ≤ _; omega)] at hj; cases hj
        rw [this] at hj
        cases hj
        have : j = i := by omega
        rw [this]
        exact hy
  · rintro D acc k m ⟨rfl, hD, ek, kD, hl, hr⟩
    exact hd D k acc ek hD kD hl hr
end
end AW

/-! == and != of two lists whose items' == may run a def of the text. -/
namespace L2
open PySem PySem.Spec PyProof.Rows PySem.SeqAt
/-- the turns that are left, the spot -/
def ElChain (prog : Program) (w : World) (A : Around) (l b : Addr) (neg : Bool) : Nat → Nat → (Result → Shared → Prop) → Shared → Prop
  | 0, i, R, s => ∃ items n items2 n2, s.heap.get? l = some (lstOf items n) ∧ s.heap.get? b = some (lstOf items2 n2) ∧ items.size = i ∧ items2.size = i ∧ R (.ok (.ret (.bool neg.not))) s
  | m + 1, i, R, s => ∃ items n items2 n2 x y, s.heap.get? l = some (lstOf items n) ∧ s.heap.get? b = some (lstOf items2 n2) ∧ items[i]? = some x ∧ items2[i]? = some y ∧
    wpAny (model prog w) A (eqBool x y) (fun k s' => (k = true → ElChain prog w A l b neg m (i + 1) R s') ∧
      (k = false → ∃ items n items2 n2 x y, s'.heap.get? l = some (lstOf items n) ∧ s'.heap.get? b = some (lstOf items2 n2) ∧ items[i]? = some x ∧ items2[i]? = some y ∧ R (.ok (.ret (.bool neg))) s')) (fun e s' => R (.error e) s') s
abbrev elCode (neg : Bool) : Int := if neg then 3 else 2
theorem plain_el : plainId "list.__eq__.loop" = true := PySem.MeetsSeq3.plain_eq_loop
theorem entry_el : entryFor table "list.__eq__.loop" = some Builtin.«list.__eq__.loop» := PySem.MeetsSeq3.entry_eq_loop
theorem el_chain {prog : Program} {w : World} {l b : Addr} {neg : Bool} (m : Nat) :
    ∀ i : Nat, MeetsIn prog w (Builtin.«list.__eq__.loop» ⟨[.ref l, .ref b, rawInt i, rawInt (elCode neg)], []⟩) (fun A R s => ElChain prog w A.in1 l b neg m i R s) := by
  induction m with
  | zero =>
    intro i A R s h
    obtain ⟨hp, g, d, tk, os⟩ := s
    obtain ⟨items, n, items2, n2, hl, hb, hi, hi2, h⟩ := h
    have none_at : items[((i : Nat) : Int).toNat]? = none := by
      rw [Int.toNat_natCast]
      exact Array.getElem?_eq_none (by omega)
    cases neg with
    | false =>
      wp_walk using wpAny_loadPart' hl, wpAny_loadPart' hb
      rw [none_at]
      wp_walk using wpAny_loadPart' hl, wpAny_loadPart' hb
      show R (Except.ok (Flow.ret (Value.bool (items.size == items2.size)))) _
      rw [hi, hi2, beq_self_eq_true]
      exact h
    | true =>
      wp_walk using wpAny_loadPart' hl, wpAny_loadPart' hb
      rw [none_at]
      wp_walk using wpAny_loadPart' hl, wpAny_loadPart' hb
      show R (Except.ok (Flow.ret (Value.bool (items.size != items2.size)))) _
      rw [hi, hi2, bne_self_eq_false]
      exact h
  | succ m ih =>
    intro i A R s h
    obtain ⟨hp, g, d, tk, os⟩ := s
    obtain ⟨items, n, items2, n2, x, y, hl, hb, hi, hi2, h⟩ := h
    have at1 : items[((i : Nat) : Int).toNat]? = some x := by simpa using hi
    have at2 : items2[((i : Nat) : Int).toNat]? = some y := by simpa using hi2
    have cast1 : ((i : Int) + 1) = ((i + 1 : Nat) : Int) := by push_cast; rfl
    cases neg with
    | false =>
      wp_walk using wpAny_loadPart' hl, wpAny_loadPart' hb
      rw [at1, at2]
      dsimp only
      refine wpAny_bind (wpAny_mono h (fun k s' hk => ?_) fun _ _ z => z)
      obtain ⟨ht, hf⟩ := hk
      cases k with
      | true =>
        wp_walk
        rw [cast1]
        refine ⟨plainId_quiet plain_el _, codeAny_builtin entry_el ?_⟩
        rw [Around.under_plainId plain_el _]
        exact ih (i + 1) A R s' (ht rfl)
      | false =>
        obtain ⟨hp, g, d, tk, os⟩ := s'
        obtain ⟨items, n, items2, n2, x, y, hl, hb, hi, hi2, h⟩ := hf rfl
        have at1 : items[((i : Nat) : Int).toNat]? = some x := by simpa using hi
        have at2 : items2[((i : Nat) : Int).toNat]? = some y := by simpa using hi2
        wp_walk using wpAny_loadPart' hl, wpAny_loadPart' hb
        rw [at1, at2]
        wp_walk
        exact h
    | true =>
      wp_walk using wpAny_loadPart' hl, wpAny_loadPart' hb
      rw [at1, at2]
      dsimp only
      refine wpAny_bind (wpAny_mono h (fun k s' hk => ?_) fun _ _ z => z)
      obtain ⟨ht, hf⟩ := hk
      cases k with
      | true =>
        wp_walk
        rw [cast1]
        refine ⟨plainId_quiet plain_el _, codeAny_builtin entry_el ?_⟩
        rw [Around.under_plainId plain_el _]
        exact ih (i + 1) A R s' (ht rfl)
      | false =>
        obtain ⟨hp, g, d, tk, os⟩ := s'
        obtain ⟨items, n, items2, n2, x, y, hl, hb, hi, hi2, h⟩ := hf rfl
        have at1 : items[((i : Nat) : Int).toNat]? = some x := by simpa using hi
        have at2 : items2[((i : Nat) : Int).toNat]? = some y := by simpa using hi2
        wp_walk using wpAny_loadPart' hl, wpAny_loadPart' hb
        rw [at1, at2]
        wp_walk
        exact h
theorem eq_list {prog : Program} {w : World} {l b : Addr} (m : Nat) :
    MeetsIn prog w (Builtin.«list.__eq__» ⟨[.ref l, .ref b], []⟩) (fun A R s => (∃ items n items2 n2, s.heap.get? l = some (lstOf items n) ∧ s.heap.get? b = some (lstOf items2 n2) ∧ items.size = items2.size) ∧ ElChain prog w A.in1 l b false m 0 R s) := by
  intro A R s h
  obtain ⟨hp, g, d, tk, os⟩ := s
  obtain ⟨⟨items, n, items2, n2, hl, hb, hs⟩, h⟩ := h
  have hne : (items.size != items2.size) = false := by rw [hs]; simp
  wp_walk using wpAny_loadPart' hl, wpAny_loadPart' hb
  refine wpAny_of_eq (show isSubtype (Value.type "list") (Value.type "list") = pure true from by first | rfl | kernel_rfl) ?_
  simp only [Bool.not_true, Bool.false_eq_true, if_false, show (CmpOp.Eq == CmpOp.Eq || CmpOp.Eq == CmpOp.NotEq) = true from rfl, if_true]
  wp_walk using wpAny_loadPart' hl, wpAny_loadPart' hb
  simp only [hne, Bool.false_eq_true, if_false]
  wp_walk
  refine ⟨plainId_quiet plain_el _, codeAny_builtin entry_el ?_⟩
  rw [Around.under_plainId plain_el _]
  exact el_chain (neg := false) m 0 A R _ h
theorem ne_list {prog : Program} {w : World} {l b : Addr} (m : Nat) :
    MeetsIn prog w (Builtin.«list.__ne__» ⟨[.ref l, .ref b], []⟩) (fun A R s => (∃ items n items2 n2, s.heap.get? l = some (lstOf items n) ∧ s.heap.get? b = some (lstOf items2 n2) ∧ items.size = items2.size) ∧ ElChain prog w A.in1 l b true m 0 R s) := by
  intro A R s h
  obtain ⟨hp, g, d, tk, os⟩ := s
  obtain ⟨⟨items, n, items2, n2, hl, hb, hs⟩, h⟩ := h
  have hne : (items.size != items2.size) = false := by rw [hs]; simp
  wp_walk using wpAny_loadPart' hl, wpAny_loadPart' hb
  refine wpAny_of_eq (show isSubtype (Value.type "list") (Value.type "list") = pure true from by first | rfl | kernel_rfl) ?_
  simp only [Bool.not_true, Bool.false_eq_true, if_false, show (CmpOp.NotEq == CmpOp.Eq || CmpOp.NotEq == CmpOp.NotEq) = true from rfl, if_true]
  wp_walk using wpAny_loadPart' hl, wpAny_loadPart' hb
  simp only [hne, Bool.false_eq_true, if_false]
  wp_walk
  refine ⟨plainId_quiet plain_el _, codeAny_builtin entry_el ?_⟩
  rw [Around.under_plainId plain_el _]
  exact el_chain (neg := true) m 0 A R _ h
end L2

/-! == and != of two lists of own objects. -/
namespace L2
open PySem PySem.Spec PyProof.Rows PySem.SeqAt
theorem el_eq {prog : Program} {w : World} {A : Around} {E : Value → Shared → Prop} {s : Shared} {l b : Addr} {Q : Value → Shared → Prop} (m : Nat) (hu : A.units < cLine) (h0 : ∃ items n items2 n2, s.heap.get? l = some (lstOf items n) ∧ s.heap.get? b = some (lstOf items2 n2) ∧ items.size = items2.size)
    (h : ElChain prog w A.in1 l b false m 0 (wants (fun v s' => v ≠ .notImplemented ∧ Q v s') E) s) : wpAny (model prog w) A (richCompare .Eq (.ref l) (.ref b)) Q E s := by
  obtain ⟨items, n, items2, n2, hl, hb, hs⟩ := id h0
  exact wpAny_richCompare_same_or (T := "list") ⟨_, hl, rfl⟩ ⟨_, hb, rfl⟩ F.slot_list_eq (call_meetsIn F.slot_list_eq ⟨_, hl, rfl⟩ F.entry_list_eq (F.args_list_eq_2 _ _) (eq_list m) ⟨h0, h⟩) (.inr hu)
theorem el_ne {prog : Program} {w : World} {A : Around} {E : Value → Shared → Prop} {s : Shared} {l b : Addr} {Q : Value → Shared → Prop} (m : Nat) (hu : A.units < cLine) (h0 : ∃ items n items2 n2, s.heap.get? l = some (lstOf items n) ∧ s.heap.get? b = some (lstOf items2 n2) ∧ items.size = items2.size)
    (h : ElChain prog w A.in1 l b true m 0 (wants (fun v s' => v ≠ .notImplemented ∧ Q v s') E) s) : wpAny (model prog w) A (richCompare .NotEq (.ref l) (.ref b)) Q E s := by
  obtain ⟨items, n, items2, n2, hl, hb, hs⟩ := id h0
  exact wpAny_richCompare_same_or (T := "list") ⟨_, hl, rfl⟩ ⟨_, hb, rfl⟩ F.slot_list_ne (call_meetsIn F.slot_list_ne ⟨_, hl, rfl⟩ F.entry_list_ne (F.args_list_ne_2 _ _) (ne_list m) ⟨h0, h⟩) (.inr hu)
/-- the pairs that are left -/
def ElCh (K : PySem.W.Frag) (C l b : Addr) (xs ys : List V) (sp : Sp) (neg : Bool) : List (Addr × Addr) → Hp → VK → Prop
  | [], H, Q => Q (.bl (!neg)) H
  | (p, q) :: r, H, Q => (∃ dx fs, H p = some (.ins C dx fs)) ∧ (∃ t, TyX K H (.ref q) t ∧ PySem.W.notFirst K C t = true) ∧ (p = q → ElCh K C l b xs ys sp neg r H Q) ∧
    (p ≠ q → sp [.ref p, .ref q] H (fun u H1 => ∃ k, u = .bl k ∧ H1 l = some (.lst xs) ∧ H1 b = some (.lst ys) ∧ (k = true → ElCh K C l b xs ys sp neg r H1 Q) ∧ (k = false → Q (.bl neg) H1)) (fun _ _ _ => False))
def rEqLO (K : PySem.W.Frag) (C : Addr) (sp : Sp) (neg : Bool) : R2 := fun x y H Q => ∃ l b ps, x = .ref l ∧ y = .ref b ∧ H l = some (.lst (ps.map fun p : Addr × Addr => .ref p.1)) ∧ H b = some (.lst (ps.map fun p : Addr × Addr => .ref p.2)) ∧
  ElCh K C l b (ps.map fun p : Addr × Addr => .ref p.1) (ps.map fun p : Addr × Addr => .ref p.2) sp neg ps H Q
section
variable {X : Cx} {CX : CXT} {k : Nat} {f C l b : Addr} {fd : FuncData} {ps : List Str} {sp : Sp} {pins : List (Addr × Obj)} {σ : St}
theorem el_walk {Q : VK} {neg : Bool} (hu : X.A.in1.units < cLine) (M : EqM X.K C f) (F : FnOk X.prog X.w X.K X.mg X.base CX k f fd ps sp) (hr : Room k X.A.in1) (hb : Binds X.K fd ps []) (hx : Passes CX X (fun _ _ _ => False)) {prs : List (Addr × Addr)} :
    ∀ (r done : List (Addr × Addr)) (H : Hp) (s : Shared), prs = done ++ r → Inv X pins σ H s → H l = some (.lst (prs.map fun p : Addr × Addr => .ref p.1)) → H b = some (.lst (prs.map fun p : Addr × Addr => .ref p.2)) → ElCh X.K C l b (prs.map fun p : Addr × Addr => .ref p.1) (prs.map fun p : Addr × Addr => .ref p.2) sp neg r H Q →
      ElChain X.prog X.w X.A.in1 l b neg r.length done.length (wants (fun v s' => v ≠ .notImplemented ∧ EP X pins σ Q v s') X.xe) s := by
  intro r
  induction r with
  | nil =>
    intro done H s e I hl hb2 h
    obtain ⟨_, its, n, rv, hlen, e1⟩ := I.lstM hl
    obtain ⟨_, its2, n2, rv2, hlen2, e2⟩ := I.lstM hb2
    rw [List.length_map, e, List.append_nil] at hlen hlen2
    exact ⟨its.toArray, n, its2.toArray, n2, e1, e2, by rw [List.size_toArray, ← hlen], by rw [List.size_toArray, ← hlen2], (fun z => nomatch z), .bl neg.not, H, I, rfl, h⟩
  | cons pq r ih =>
    obtain ⟨p, q⟩ := pq
    intro done H s e I hl hb2 h
    obtain ⟨⟨dx, fs, hp⟩, ⟨t, ty, nf⟩, hsame, hsp⟩ := h
    have nxt : prs = (done ++ [(p, q)]) ++ r := by rw [e]; simp
    have spots : ∀ {s' : Shared} {H' : Hp}, Inv X pins σ H' s' → H' l = some (.lst (prs.map fun p : Addr × Addr => .ref p.1)) → H' b = some (.lst (prs.map fun p : Addr × Addr => .ref p.2)) →
        ∃ items n items2 n2, s'.heap.get? l = some (lstOf items n) ∧ s'.heap.get? b = some (lstOf items2 n2) ∧ items[done.length]? = some (Value.ref p) ∧ items2[done.length]? = some (Value.ref q) := fun {s' H'} I' hl' hb' => by
      obtain ⟨_, its, n, rv, hlen, e1⟩ := I'.lstM hl'
      obtain ⟨_, its2, n2, rv2, hlen2, e2⟩ := I'.lstM hb'
      obtain ⟨u1, g1, r1⟩ := rv.get (show (prs.map fun p : Addr × Addr => V.ref p.1)[done.length]? = some (V.ref p) by rw [e]; simp)
      obtain ⟨u2, g2, r2⟩ := rv2.get (show (prs.map fun p : Addr × Addr => V.ref p.2)[done.length]? = some (V.ref q) by rw [e]; simp)
      cases (show u1 = Value.ref p from r1)
      cases (show u2 = Value.ref q from r2)
      exact ⟨its.toArray, n, its2.toArray, n2, e1, e2, by rw [List.getElem?_toArray]; exact g1, by rw [List.getElem?_toArray]; exact g2⟩
    obtain ⟨items, n, items2, n2, e1, e2, g1, g2⟩ := spots I hl hb2
    refine ⟨items, n, items2, n2, .ref p, .ref q, e1, e2, g1, g2, ?_⟩
    by_cases hpq : p = q
    · subst hpq
      refine eqAt_ref p _ _ _ _ ⟨fun _ => ?_, fun z => nomatch z⟩
      have z := ih (done ++ [(p, p)]) H s nxt I hl hb2 (hsame rfl)
      rw [List.length_append] at z
      exact z
    · unfold eqBool
      refine wpAny_holding ?_
      refine wpAny_ite_split (fun z => absurd (Value.ref.inj (eq_of_beq z)) hpq) (fun _ => ?_)
      obtain ⟨mA, J, _⟩ := ins_get I.hok hp
      obtain ⟨od, J, _⟩ := J.look
      obtain ⟨m0, hF⟩ := I.fr
      have hbt := typeOf_of I (show RelV (V.ref q) (Value.ref q) from rfl) ty
      refine wpAny_bind (PySem.W.cmp_K (op := .Eq) hu hF I.ok.mod.kin J hbt nf M.hs M.hf ?_)
      refine wpAny_mono (callA (A := X.A.in1) (vs := [.ref p, .ref q]) F hr rfl hb hx I (.cons rfl (.cons rfl .nil)) (hsp hpq)) (fun z s' hz => ?_) fun _ _ z => z
      obtain ⟨v', H', I', rv', k, ek, hl', hb', ht, hf⟩ := hz
      subst ek
      cases (show z = Value.bool k from rv')
      show wpAny _ _ (truthOfDropped (.bool k)) _ _ _
      refine (show wpAny _ _ (truthy (.bool k)) _ _ _ from wpAny_truthy_bool ⟨fun hk => ?_, fun hk => ?_⟩)
      · have z := ih (done ++ [(p, q)]) H' s' nxt I' hl' hb' (ht hk)
        rw [List.length_append] at z
        exact z
      · obtain ⟨items, n, items2, n2, e1, e2, g1, g2⟩ := spots I' hl' hb'
        exact ⟨items, n, items2, n2, .ref p, .ref q, e1, e2, g1, g2, (fun z => nomatch z), .bl neg, H', I', rfl, hf hk⟩
theorem op_eqLO (M : EqM X.K C f) (F : FnOk X.prog X.w X.K X.mg X.base CX k f fd ps sp) (hr : Room (k + 1) X.A) (hb : Binds X.K fd ps []) (hx : Passes CX X (fun _ _ _ => False)) : OpR X (compareOp .Eq) (rEqLO X.K C sp false) := by
  intro pins s σ H x y v u Q I rx ry h
  obtain ⟨l, b, prs, rfl, rfl, hl, hb2, h⟩ := h
  cases (show v = Value.ref l from rx)
  cases (show u = Value.ref b from ry)
  obtain ⟨_, its, n, rv, hlen, e1⟩ := I.lstM hl
  obtain ⟨_, its2, n2, rv2, hlen2, e2⟩ := I.lstM hb2
  rw [List.length_map] at hlen hlen2
  exact el_eq prs.length hr.units0 ⟨its.toArray, n, its2.toArray, n2, e1, e2, by rw [List.size_toArray, List.size_toArray, ← hlen, ← hlen2]⟩ (el_walk hr.in1.units0 M F hr.in1 hb hx prs [] H s rfl I hl hb2 h)
theorem op_neLO (M : EqM X.K C f) (F : FnOk X.prog X.w X.K X.mg X.base CX k f fd ps sp) (hr : Room (k + 1) X.A) (hb : Binds X.K fd ps []) (hx : Passes CX X (fun _ _ _ => False)) : OpR X (compareOp .NotEq) (rEqLO X.K C sp true) := by
  intro pins s σ H x y v u Q I rx ry h
  obtain ⟨l, b, prs, rfl, rfl, hl, hb2, h⟩ := h
  cases (show v = Value.ref l from rx)
  cases (show u = Value.ref b from ry)
  obtain ⟨_, its, n, rv, hlen, e1⟩ := I.lstM hl
  obtain ⟨_, its2, n2, rv2, hlen2, e2⟩ := I.lstM hb2
  rw [List.length_map] at hlen hlen2
  exact el_ne prs.length hr.units0 ⟨its.toArray, n, its2.toArray, n2, e1, e2, by rw [List.size_toArray, List.size_toArray, ← hlen, ← hlen2]⟩ (el_walk hr.in1.units0 M F hr.in1 hb hx prs [] H s rfl I hl hb2 h)
end
end L2
namespace AW
open PySem PySem.Spec PyProof.Rows L2
/-- two lists of own objects, whose == changes nothing that is known -/
theorem r_eqLO {K : PySem.W.Frag} {c : Cw} {kn : Hp} {n : Nat} {Q : V → Hp → Nat → Prop} {B : List V → Hp → AK → AXK → Prop} {C l b : Addr} {neg : Bool} {prs : List (Addr × Addr)} (e : Addr × Addr → Bool) (hm : MonoX B) (nf : PySem.W.notFirst K C (.ref C) = true)
    (hl : kn l = some (.lst (prs.map fun p : Addr × Addr => .ref p.1))) (hb : kn b = some (.lst (prs.map fun p : Addr × Addr => .ref p.2))) (own : ∀ pq ∈ prs, (∃ dx fs, kn pq.1 = some (.ins C dx fs)) ∧ TyX K kn (.ref pq.2) (.ref C)) (es : ∀ pq ∈ prs, pq.1 = pq.2 → e pq = true)
    (h : ∀ pq ∈ prs, pq.1 ≠ pq.2 → B [.ref pq.1, .ref pq.2] kn (fun u k => u = .bl (e pq) ∧ k = kn) (fun _ _ _ => False)) (q : Q (.bl (if neg then !(prs.all e) else prs.all e)) kn n) : W c (rEqLO K C (liftX B) neg (.ref l) (.ref b)) kn n Q := by
  intro H g Q' k
  have walk : ∀ (r : List (Addr × Addr)), (∀ v ∈ r, v ∈ prs) → (Q (.bl (if neg then !(r.all e) else r.all e)) kn n) → ∀ H, Good c kn n H → ElCh K C l b (prs.map fun p : Addr × Addr => .ref p.1) (prs.map fun p : Addr × Addr => .ref p.2) (liftX B) neg r H Q' := by
    intro r
    induction r with
    | nil =>
      intro _ q H g
      refine k _ _ _ _ ?_ g
      cases neg
      · exact q
      · exact q
    | cons pq r ih =>
      obtain ⟨p, q'⟩ := pq
      intro hr q H g
      have hin := hr (p, q') List.mem_cons_self
      obtain ⟨⟨dx, fs, hp⟩, ty⟩ := own _ hin
      have ih := ih fun w hw => hr w (List.mem_cons_of_mem _ hw)
      refine ⟨⟨dx, fs, g.ex _ _ hp⟩, ⟨_, tyx_ext g.ex ty, nf⟩, fun same => ?_, fun ne => ⟨kn, g.ex, g.nt, hm _ _ _ _ _ _ (fun u k' hu n' H' g' => ?_) (fun _ _ _ z => z.elim) (h _ hin ne)⟩⟩
      · refine ih ?_ H g
        rw [List.all_cons, es _ hin same, Bool.true_and] at q
        exact q
      · obtain ⟨rfl, rfl⟩ := hu
        have g2 : Good c k' n H' := g.back g'
        refine ⟨_, rfl, g2.ex _ _ hl, g2.ex _ _ hb, fun ht => ih ?_ H' g2, fun hf => k _ _ _ _ ?_ g2⟩
        · rw [List.all_cons, ht, Bool.true_and] at q
          exact q
        · rw [List.all_cons, hf, Bool.false_and] at q
          cases neg
          · exact q
          · exact q
  exact ⟨l, b, prs, rfl, rfl, g.ex _ _ hl, g.ex _ _ hb, walk prs (fun _ z => z) q H g⟩
end AW

/-! Built-in types as right operands of own operators. -/
namespace L2
open PySem PySem.Spec PyProof.Rows
section
variable {K : PySem.W.Frag} {C : Addr}
theorem ot_int_shr (h : PySem.W.subIn K (.type "int") (.ref C) = some false) : OpT K .RShift C (.type "int") := .ty (r := true) (o := some (.builtin "int.__rrshift__")) (by first | rfl | kernel_rfl) h (by rw [typeLookup_type, builtinLookup_eq_fast]; kernel_rfl)
theorem ot_int_shl (h : PySem.W.subIn K (.type "int") (.ref C) = some false) : OpT K .LShift C (.type "int") := .ty (r := true) (o := some (.builtin "int.__rlshift__")) (by first | rfl | kernel_rfl) h (by rw [typeLookup_type, builtinLookup_eq_fast]; kernel_rfl)
theorem ot_int_div (h : PySem.W.subIn K (.type "int") (.ref C) = some false) : OpT K .FloorDiv C (.type "int") := .ty (r := true) (o := some (.builtin "int.__rfloordiv__")) (by first | rfl | kernel_rfl) h (by rw [typeLookup_type, builtinLookup_eq_fast]; kernel_rfl)
theorem ot_bool_div (h : PySem.W.subIn K (.type "bool") (.ref C) = some false) : OpT K .FloorDiv C (.type "bool") := .ty (r := true) (o := some (.builtin "int.__rfloordiv__")) (by first | rfl | kernel_rfl) h (by rw [typeLookup_type, builtinLookup_eq_fast]; kernel_rfl)
theorem ot_none_div (h : PySem.W.subIn K (.type "NoneType") (.ref C) = some false) : OpT K .FloorDiv C (.type "NoneType") := .ty (r := false) (o := none) (by first | rfl | kernel_rfl) h (by rw [typeLookup_type, builtinLookup_eq_fast]; kernel_rfl)
theorem ot_str_div (h : PySem.W.subIn K (.type "str") (.ref C) = some false) : OpT K .FloorDiv C (.type "str") := .ty (r := false) (o := none) (by first | rfl | kernel_rfl) h (by rw [typeLookup_type, builtinLookup_eq_fast]; kernel_rfl)
theorem ot_tuple_div (h : PySem.W.subIn K (.type "tuple") (.ref C) = some false) : OpT K .FloorDiv C (.type "tuple") := .ty (r := false) (o := none) (by first | rfl | kernel_rfl) h (by rw [typeLookup_type, builtinLookup_eq_fast]; kernel_rfl)
theorem ot_list_div (h : PySem.W.subIn K (.type "list") (.ref C) = some false) : OpT K .FloorDiv C (.type "list") := .ty (r := false) (o := none) (by first | rfl | kernel_rfl) h (by rw [typeLookup_type, builtinLookup_eq_fast]; kernel_rfl)
theorem ot_dict_div (h : PySem.W.subIn K (.type "dict") (.ref C) = some false) : OpT K .FloorDiv C (.type "dict") := .ty (r := false) (o := none) (by first | rfl | kernel_rfl) h (by rw [typeLookup_type, builtinLookup_eq_fast]; kernel_rfl)
end
end L2

namespace NN
open PySem PySem.Spec PyProof.Rows L2 LamX AW ClX
theorem sc_is_whole : FnScope ["value"] ["value"] (defScope s_is_whole) :=
  ⟨rfl, rfl, rfl, by decide +kernel, rfl, by decide +kernel, by decide +kernel⟩
theorem sc_is_from : FnScope ["value", "least", "most"] ["value", "least", "most"] (defScope s_is_from) :=
  ⟨rfl, rfl, rfl, by decide +kernel, rfl, by decide +kernel, by decide +kernel⟩
theorem sc_are_from : FnScope ["values", "least", "most", "value"] ["values", "least", "most"] (defScope s_are_from) :=
  ⟨rfl, rfl, rfl, by decide +kernel, rfl, by decide +kernel, by decide +kernel⟩
theorem sc_is_day : FnScope ["value"] ["value"] (defScope s_is_day) :=
  ⟨rfl, rfl, rfl, by decide +kernel, rfl, by decide +kernel, by decide +kernel⟩
theorem sc_marked : FnScope ["size", "numbers", "marks", "n"] ["size", "numbers"] (defScope s_marked) :=
  ⟨rfl, rfl, rfl, by decide +kernel, rfl, by decide +kernel, by decide +kernel⟩
theorem sc_least_period : FnScope ["turn", "size", "period"] ["turn"] (defScope s_least_period) :=
  ⟨rfl, rfl, rfl, by decide +kernel, rfl, by decide +kernel, by decide +kernel⟩
theorem sc_BadDays___init__ : FnScope ["self", "part"] ["self", "part"] (defScope s_BadDays___init__) :=
  ⟨rfl, rfl, rfl, by decide +kernel, rfl, by decide +kernel, by decide +kernel⟩
theorem sc_BadStay___init__ : FnScope ["self", "part"] ["self", "part"] (defScope s_BadStay___init__) :=
  ⟨rfl, rfl, rfl, by decide +kernel, rfl, by decide +kernel, by decide +kernel⟩
theorem sc_TooMany___init__ : FnScope ["self", "what", "most"] ["self", "what", "most"] (defScope s_TooMany___init__) :=
  ⟨rfl, rfl, rfl, by decide +kernel, rfl, by decide +kernel, by decide +kernel⟩
theorem sc_Days___init__ : FnScope ["self", "period", "rests", "turn", "n"] ["self", "period", "rests"] (defScope s_Days___init__) :=
  ⟨rfl, rfl, rfl, by decide +kernel, rfl, by decide +kernel, by decide +kernel⟩
theorem sc_Days_period : FnScope ["self"] ["self"] (defScope s_Days_period) :=
  ⟨rfl, rfl, rfl, by decide +kernel, rfl, by decide +kernel, by decide +kernel⟩
theorem sc_Days_none : FnScope [] [] (defScope s_Days_none) :=
  ⟨rfl, rfl, rfl, by decide +kernel, rfl, by decide +kernel, by decide +kernel⟩
theorem sc_Days___contains__ : FnScope ["self", "x"] ["self", "x"] (defScope s_Days___contains__) :=
  ⟨rfl, rfl, rfl, by decide +kernel, rfl, by decide +kernel, by decide +kernel⟩
theorem sc_Days_following : FnScope ["self", "d", "day"] ["self", "d"] (defScope s_Days_following) :=
  ⟨rfl, rfl, rfl, by decide +kernel, rfl, by decide +kernel, by decide +kernel⟩
theorem sc_Days___rshift__ : FnScope ["self", "other", "n"] ["self", "other"] (defScope s_Days___rshift__) :=
  ⟨rfl, rfl, rfl, by decide +kernel, rfl, by decide +kernel, by decide +kernel⟩
theorem sc_Days___lshift__ : FnScope ["self", "other"] ["self", "other"] (defScope s_Days___lshift__) :=
  ⟨rfl, rfl, rfl, by decide +kernel, rfl, by decide +kernel, by decide +kernel⟩
theorem sc_Days___and__ : FnScope ["self", "other", "period", "n"] ["self", "other"] (defScope s_Days___and__) :=
  ⟨rfl, rfl, rfl, by decide +kernel, rfl, by decide +kernel, by decide +kernel⟩
theorem sc_Days___or__ : FnScope ["self", "other", "period", "n"] ["self", "other"] (defScope s_Days___or__) :=
  ⟨rfl, rfl, rfl, by decide +kernel, rfl, by decide +kernel, by decide +kernel⟩
theorem sc_Days___sub__ : FnScope ["self", "other", "period", "n"] ["self", "other"] (defScope s_Days___sub__) :=
  ⟨rfl, rfl, rfl, by decide +kernel, rfl, by decide +kernel, by decide +kernel⟩
theorem sc_Days___invert__ : FnScope ["self", "n"] ["self"] (defScope s_Days___invert__) :=
  ⟨rfl, rfl, rfl, by decide +kernel, rfl, by decide +kernel, by decide +kernel⟩
theorem sc_Days___le__ : FnScope ["self", "other", "n"] ["self", "other"] (defScope s_Days___le__) :=
  ⟨rfl, rfl, rfl, by decide +kernel, rfl, by decide +kernel, by decide +kernel⟩
theorem sc_Days___eq__ : FnScope ["self", "other"] ["self", "other"] (defScope s_Days___eq__) :=
  ⟨rfl, rfl, rfl, by decide +kernel, rfl, by decide +kernel, by decide +kernel⟩
theorem sc_common_period : FnScope ["one", "other", "period"] ["one", "other"] (defScope s_common_period) :=
  ⟨rfl, rfl, rfl, by decide +kernel, rfl, by decide +kernel, by decide +kernel⟩
theorem sc_Lengths___init__ : FnScope ["self", "start", "low", "period", "rests", "near", "turn", "step", "astray", "n", "begin"] ["self", "start", "low", "period", "rests"] (defScope s_Lengths___init__) :=
  ⟨rfl, rfl, rfl, by decide +kernel, rfl, by decide +kernel, by decide +kernel⟩
theorem sc_Lengths_start : FnScope ["self"] ["self"] (defScope s_Lengths_start) :=
  ⟨rfl, rfl, rfl, by decide +kernel, rfl, by decide +kernel, by decide +kernel⟩
theorem sc_Lengths_period : FnScope ["self"] ["self"] (defScope s_Lengths_period) :=
  ⟨rfl, rfl, rfl, by decide +kernel, rfl, by decide +kernel, by decide +kernel⟩
theorem sc_Lengths_of : FnScope ["numbers", "number"] ["numbers"] (defScope s_Lengths_of) :=
  ⟨rfl, rfl, rfl, by decide +kernel, rfl, by decide +kernel, by decide +kernel⟩
theorem sc_Lengths_since : FnScope ["least"] ["least"] (defScope s_Lengths_since) :=
  ⟨rfl, rfl, rfl, by decide +kernel, rfl, by decide +kernel, by decide +kernel⟩
theorem sc_Lengths_none : FnScope [] [] (defScope s_Lengths_none) :=
  ⟨rfl, rfl, rfl, by decide +kernel, rfl, by decide +kernel, by decide +kernel⟩
theorem sc_Lengths___contains__ : FnScope ["self", "x"] ["self", "x"] (defScope s_Lengths___contains__) :=
  ⟨rfl, rfl, rfl, by decide +kernel, rfl, by decide +kernel, by decide +kernel⟩
theorem sc_Lengths_at_least : FnScope ["self", "n", "k"] ["self", "n"] (defScope s_Lengths_at_least) :=
  ⟨rfl, rfl, rfl, by decide +kernel, rfl, by decide +kernel, by decide +kernel⟩
theorem sc_Lengths_below : FnScope ["self", "n", "turns", "rest", "last"] ["self", "n"] (defScope s_Lengths_below) :=
  ⟨rfl, rfl, rfl, by decide +kernel, rfl, by decide +kernel, by decide +kernel⟩
theorem sc_Lengths___or__ : FnScope ["self", "other", "start", "period", "n"] ["self", "other"] (defScope s_Lengths___or__) :=
  ⟨rfl, rfl, rfl, by decide +kernel, rfl, by decide +kernel, by decide +kernel⟩
theorem sc_Lengths___sub__ : FnScope ["self", "other", "start", "period", "n"] ["self", "other"] (defScope s_Lengths___sub__) :=
  ⟨rfl, rfl, rfl, by decide +kernel, rfl, by decide +kernel, by decide +kernel⟩
theorem sc_Lengths___eq__ : FnScope ["self", "other"] ["self", "other"] (defScope s_Lengths___eq__) :=
  ⟨rfl, rfl, rfl, by decide +kernel, rfl, by decide +kernel, by decide +kernel⟩
theorem sc_check_parts : FnScope ["start", "low", "period", "rests"] ["start", "low", "period", "rests"] (defScope s_check_parts) :=
  ⟨rfl, rfl, rfl, by decide +kernel, rfl, by decide +kernel, by decide +kernel⟩
theorem sc_check_size : FnScope ["start", "period"] ["start", "period"] (defScope s_check_size) :=
  ⟨rfl, rfl, rfl, by decide +kernel, rfl, by decide +kernel, by decide +kernel⟩
theorem sc_check_argument : FnScope ["value", "least", "most"] ["value", "least", "most"] (defScope s_check_argument) :=
  ⟨rfl, rfl, rfl, by decide +kernel, rfl, by decide +kernel, by decide +kernel⟩
theorem sc_check_number : FnScope ["value"] ["value"] (defScope s_check_number) :=
  ⟨rfl, rfl, rfl, by decide +kernel, rfl, by decide +kernel, by decide +kernel⟩
theorem sc_common_form : FnScope ["one", "other", "start", "period"] ["one", "other"] (defScope s_common_form) :=
  ⟨rfl, rfl, rfl, by decide +kernel, rfl, by decide +kernel, by decide +kernel⟩
theorem sc_gathered : FnScope ["start", "period", "numbers", "low", "n"] ["start", "period", "numbers"] (defScope s_gathered) :=
  ⟨rfl, rfl, rfl, by decide +kernel, rfl, by decide +kernel, by decide +kernel⟩
theorem sc_Stay___init__ : FnScope ["self", "first", "after"] ["self", "first", "after"] (defScope s_Stay___init__) :=
  ⟨rfl, rfl, rfl, by decide +kernel, rfl, by decide +kernel, by decide +kernel⟩
theorem sc_Stay___len__ : FnScope ["self"] ["self"] (defScope s_Stay___len__) :=
  ⟨rfl, rfl, rfl, by decide +kernel, rfl, by decide +kernel, by decide +kernel⟩
theorem sc_Stay___iter__ : FnScope ["self"] ["self"] (defScope s_Stay___iter__) :=
  ⟨rfl, rfl, rfl, by decide +kernel, rfl, by decide +kernel, by decide +kernel⟩
theorem sc_Stay___rshift__ : FnScope ["self", "other"] ["self", "other"] (defScope s_Stay___rshift__) :=
  ⟨rfl, rfl, rfl, by decide +kernel, rfl, by decide +kernel, by decide +kernel⟩
theorem sc_Stay___lshift__ : FnScope ["self", "other"] ["self", "other"] (defScope s_Stay___lshift__) :=
  ⟨rfl, rfl, rfl, by decide +kernel, rfl, by decide +kernel, by decide +kernel⟩
theorem sc_Stay___floordiv__ : FnScope ["self", "other"] ["self", "other"] (defScope s_Stay___floordiv__) :=
  ⟨rfl, rfl, rfl, by decide +kernel, rfl, by decide +kernel, by decide +kernel⟩
theorem sc_Stay_meets : FnScope ["self", "other"] ["self", "other"] (defScope s_Stay_meets) :=
  ⟨rfl, rfl, rfl, by decide +kernel, rfl, by decide +kernel, by decide +kernel⟩
theorem sc__law_pen : FnScope ["script"] ["script"] (defScope s__law_pen) :=
  ⟨rfl, rfl, rfl, by decide +kernel, rfl, by decide +kernel, by decide +kernel⟩
theorem sc__law_draw : FnScope ["pen", "many", "digit", "at", "cell", "great", "mixed"] ["pen", "many"] (defScope s__law_draw) :=
  ⟨rfl, rfl, rfl, by decide +kernel, rfl, by decide +kernel, by decide +kernel⟩
theorem sc__law_pick : FnScope ["pen", "some"] ["pen", "some"] (defScope s__law_pick) :=
  ⟨rfl, rfl, rfl, by decide +kernel, rfl, by decide +kernel, by decide +kernel⟩
theorem sc__law_days : FnScope ["pen", "some", "size", "rest"] ["pen", "some"] (defScope s__law_days) :=
  ⟨rfl, rfl, rfl, by decide +kernel, rfl, by decide +kernel, by decide +kernel⟩
theorem sc__law_many : FnScope ["stay_so", "days_so", "n"] ["stay_so", "days_so"] (defScope s__law_many) :=
  ⟨rfl, rfl, rfl, by decide +kernel, rfl, by decide +kernel, by decide +kernel⟩
theorem sc__law_counts_right : FnScope ["stay_so", "one", "other", "here", "there", "both"] ["stay_so", "one", "other"] (defScope s__law_counts_right) :=
  ⟨rfl, rfl, rfl, by decide +kernel, rfl, by decide +kernel, by decide +kernel⟩
theorem sc__law_moved_right : FnScope ["pen", "stay_so", "one", "k"] ["pen", "stay_so", "one"] (defScope s__law_moved_right) :=
  ⟨rfl, rfl, rfl, by decide +kernel, rfl, by decide +kernel, by decide +kernel⟩
theorem sc__law_parts_right : FnScope ["pen", "stay_so", "one", "ahead", "behind", "later", "some", "n"] ["pen", "stay_so", "one"] (defScope s__law_parts_right) :=
  ⟨rfl, rfl, rfl, by decide +kernel, rfl, by decide +kernel, by decide +kernel⟩
theorem sc__law_listed_right : FnScope ["stay_so", "made", "n"] ["stay_so"] (defScope s__law_listed_right) :=
  ⟨rfl, rfl, rfl, by decide +kernel, rfl, by decide +kernel, by decide +kernel⟩
theorem sc_law : FnScope ["script", "pen", "turn", "some", "one", "other", "begin", "stay_so", "near"] ["script"] (defScope s_law) :=
  ⟨rfl, rfl, rfl, by decide +kernel, rfl, by decide +kernel, by decide +kernel⟩
structure Tx (K : PySem.W.Frag) (mg : Str → Option Value) where
  f_is_whole : Addr
  d_is_whole : FuncData
  f_is_from : Addr
  d_is_from : FuncData
  f_is_day : Addr
  d_is_day : FuncData
  f_are_from : Addr
  d_are_from : FuncData
  f_marked : Addr
  d_marked : FuncData
  f_least_period : Addr
  d_least_period : FuncData
  f_common_period : Addr
  d_common_period : FuncData
  f_check_parts : Addr
  d_check_parts : FuncData
  f_check_size : Addr
  d_check_size : FuncData
  f_check_argument : Addr
  d_check_argument : FuncData
  f_check_number : Addr
  d_check_number : FuncData
  f_common_form : Addr
  d_common_form : FuncData
  f_gathered : Addr
  d_gathered : FuncData
  c_StayError : Addr
  c_BadDays : Addr
  f_BadDays___init__ : Addr
  d_BadDays___init__ : FuncData
  c_BadStay : Addr
  f_BadStay___init__ : Addr
  d_BadStay___init__ : FuncData
  c_TooMany : Addr
  f_TooMany___init__ : Addr
  d_TooMany___init__ : FuncData
  c_Days : Addr
  f_Days___init__ : Addr
  d_Days___init__ : FuncData
  f_Days___eq__ : Addr
  d_Days___eq__ : FuncData
  f_Days___contains__ : Addr
  d_Days___contains__ : FuncData
  f_Days___and__ : Addr
  d_Days___and__ : FuncData
  f_Days___or__ : Addr
  d_Days___or__ : FuncData
  f_Days___sub__ : Addr
  d_Days___sub__ : FuncData
  f_Days___invert__ : Addr
  d_Days___invert__ : FuncData
  f_Days___rshift__ : Addr
  d_Days___rshift__ : FuncData
  f_Days___lshift__ : Addr
  d_Days___lshift__ : FuncData
  f_Days___le__ : Addr
  d_Days___le__ : FuncData
  f_Days_following : Addr
  d_Days_following : FuncData
  f_Days_none : Addr
  p_Days_none : Addr
  d_Days_none : FuncData
  f_Days_period : Addr
  p_Days_period : Addr
  d_Days_period : FuncData
  c_Stay : Addr
  f_Stay___init__ : Addr
  d_Stay___init__ : FuncData
  f_Stay___len__ : Addr
  d_Stay___len__ : FuncData
  f_Stay___iter__ : Addr
  d_Stay___iter__ : FuncData
  f_Stay___rshift__ : Addr
  d_Stay___rshift__ : FuncData
  f_Stay___lshift__ : Addr
  d_Stay___lshift__ : FuncData
  f_Stay___floordiv__ : Addr
  d_Stay___floordiv__ : FuncData
  f_Stay_meets : Addr
  d_Stay_meets : FuncData
  c_Lengths : Addr
  f_Lengths___init__ : Addr
  d_Lengths___init__ : FuncData
  dl_Lengths___init__ : Addr
  dr_Lengths___init__ : Addr
  f_Lengths___eq__ : Addr
  d_Lengths___eq__ : FuncData
  f_Lengths___contains__ : Addr
  d_Lengths___contains__ : FuncData
  f_Lengths___or__ : Addr
  d_Lengths___or__ : FuncData
  f_Lengths___sub__ : Addr
  d_Lengths___sub__ : FuncData
  f_Lengths_at_least : Addr
  d_Lengths_at_least : FuncData
  f_Lengths_below : Addr
  d_Lengths_below : FuncData
  f_Lengths_none : Addr
  p_Lengths_none : Addr
  d_Lengths_none : FuncData
  f_Lengths_of : Addr
  p_Lengths_of : Addr
  d_Lengths_of : FuncData
  f_Lengths_since : Addr
  p_Lengths_since : Addr
  d_Lengths_since : FuncData
  f_Lengths_start : Addr
  p_Lengths_start : Addr
  d_Lengths_start : FuncData
  f_Lengths_period : Addr
  p_Lengths_period : Addr
  d_Lengths_period : FuncData
  f__law_pen : Addr
  d__law_pen : FuncData
  f__law_draw : Addr
  d__law_draw : FuncData
  f__law_pick : Addr
  d__law_pick : FuncData
  f__law_days : Addr
  d__law_days : FuncData
  f__law_many : Addr
  d__law_many : FuncData
  f__law_counts_right : Addr
  d__law_counts_right : FuncData
  f__law_moved_right : Addr
  d__law_moved_right : FuncData
  f__law_parts_right : Addr
  d__law_parts_right : FuncData
  f__law_listed_right : Addr
  d__law_listed_right : FuncData
  f_law : Addr
  d_law : FuncData
  g_is_whole : mg "is_whole" = some (.ref f_is_whole)
  F_is_whole : Fun K "is_whole" "is_whole" s_is_whole f_is_whole d_is_whole
  bd_is_whole : Binds K d_is_whole ["value"] []
  g_is_from : mg "is_from" = some (.ref f_is_from)
  F_is_from : Fun K "is_from" "is_from" s_is_from f_is_from d_is_from
  bd_is_from : Binds K d_is_from ["value", "least", "most"] []
  g_is_day : mg "is_day" = some (.ref f_is_day)
  F_is_day : Fun K "is_day" "is_day" s_is_day f_is_day d_is_day
  bd_is_day : Binds K d_is_day ["value"] []
  g_are_from : mg "are_from" = some (.ref f_are_from)
  F_are_from : Fun K "are_from" "are_from" s_are_from f_are_from d_are_from
  bd_are_from : Binds K d_are_from ["values", "least", "most"] []
  g_marked : mg "marked" = some (.ref f_marked)
  F_marked : Fun K "marked" "marked" s_marked f_marked d_marked
  bd_marked : Binds K d_marked ["size", "numbers"] []
  g_least_period : mg "least_period" = some (.ref f_least_period)
  F_least_period : Fun K "least_period" "least_period" s_least_period f_least_period d_least_period
  bd_least_period : Binds K d_least_period ["turn"] []
  g_common_period : mg "common_period" = some (.ref f_common_period)
  F_common_period : Fun K "common_period" "common_period" s_common_period f_common_period d_common_period
  bd_common_period : Binds K d_common_period ["one", "other"] []
  g_check_parts : mg "check_parts" = some (.ref f_check_parts)
  F_check_parts : Fun K "check_parts" "check_parts" s_check_parts f_check_parts d_check_parts
  bd_check_parts : Binds K d_check_parts ["start", "low", "period", "rests"] []
  g_check_size : mg "check_size" = some (.ref f_check_size)
  F_check_size : Fun K "check_size" "check_size" s_check_size f_check_size d_check_size
  bd_check_size : Binds K d_check_size ["start", "period"] []
  g_check_argument : mg "check_argument" = some (.ref f_check_argument)
  F_check_argument : Fun K "check_argument" "check_argument" s_check_argument f_check_argument d_check_argument
  bd_check_argument : Binds K d_check_argument ["value", "least", "most"] []
  g_check_number : mg "check_number" = some (.ref f_check_number)
  F_check_number : Fun K "check_number" "check_number" s_check_number f_check_number d_check_number
  bd_check_number : Binds K d_check_number ["value"] []
  g_common_form : mg "common_form" = some (.ref f_common_form)
  F_common_form : Fun K "common_form" "common_form" s_common_form f_common_form d_common_form
  bd_common_form : Binds K d_common_form ["one", "other"] []
  g_gathered : mg "gathered" = some (.ref f_gathered)
  F_gathered : Fun K "gathered" "gathered" s_gathered f_gathered d_gathered
  bd_gathered : Binds K d_gathered ["start", "period", "numbers"] []
  g_StayError : mg "StayError" = some (.ref c_StayError)
  g_BadDays : mg "BadDays" = some (.ref c_BadDays)
  x_BadDays : OexC K c_BadDays
  xf_BadDays : XfC K c_BadDays
  xc_BadDays : ExcC K c_BadDays
  nx_BadDays_part : PySem.W.findIn K (.ref c_BadDays) "part" = some none
  fi_BadDays___init__ : PySem.W.findIn K (.ref c_BadDays) "__init__" = some (some (.ref f_BadDays___init__))
  isf_BadDays___init__ : PySem.W.isFn K (.ref f_BadDays___init__) = true
  F_BadDays___init__ : Fun K "__init__" "BadDays.__init__" s_BadDays___init__ f_BadDays___init__ d_BadDays___init__
  bd_BadDays___init__ : Binds K d_BadDays___init__ ["self", "part"] []
  ti_BadDays : PySem.W.typeIn K (.ref f_BadDays___init__) = some (.type "function")
  g_BadStay : mg "BadStay" = some (.ref c_BadStay)
  x_BadStay : OexC K c_BadStay
  xf_BadStay : XfC K c_BadStay
  xc_BadStay : ExcC K c_BadStay
  nx_BadStay_part : PySem.W.findIn K (.ref c_BadStay) "part" = some none
  fi_BadStay___init__ : PySem.W.findIn K (.ref c_BadStay) "__init__" = some (some (.ref f_BadStay___init__))
  isf_BadStay___init__ : PySem.W.isFn K (.ref f_BadStay___init__) = true
  F_BadStay___init__ : Fun K "__init__" "BadStay.__init__" s_BadStay___init__ f_BadStay___init__ d_BadStay___init__
  bd_BadStay___init__ : Binds K d_BadStay___init__ ["self", "part"] []
  ti_BadStay : PySem.W.typeIn K (.ref f_BadStay___init__) = some (.type "function")
  g_TooMany : mg "TooMany" = some (.ref c_TooMany)
  x_TooMany : OexC K c_TooMany
  xf_TooMany : XfC K c_TooMany
  xc_TooMany : ExcC K c_TooMany
  nx_TooMany_what : PySem.W.findIn K (.ref c_TooMany) "what" = some none
  nx_TooMany_most : PySem.W.findIn K (.ref c_TooMany) "most" = some none
  fi_TooMany___init__ : PySem.W.findIn K (.ref c_TooMany) "__init__" = some (some (.ref f_TooMany___init__))
  isf_TooMany___init__ : PySem.W.isFn K (.ref f_TooMany___init__) = true
  F_TooMany___init__ : Fun K "__init__" "TooMany.__init__" s_TooMany___init__ f_TooMany___init__ d_TooMany___init__
  bd_TooMany___init__ : Binds K d_TooMany___init__ ["self", "what", "most"] []
  ti_TooMany : PySem.W.typeIn K (.ref f_TooMany___init__) = some (.type "function")
  g_Days : mg "Days" = some (.ref c_Days)
  cl_Days : Cls K c_Days
  own_Days : OwnC K c_Days
  na_Days__period : NoAttr K c_Days "_period"
  na_Days__rests : NoAttr K c_Days "_rests"
  fi_Days___init__ : PySem.W.findIn K (.ref c_Days) "__init__" = some (some (.ref f_Days___init__))
  isf_Days___init__ : PySem.W.isFn K (.ref f_Days___init__) = true
  F_Days___init__ : Fun K "__init__" "Days.__init__" s_Days___init__ f_Days___init__ d_Days___init__
  bd_Days___init__ : Binds K d_Days___init__ ["self", "period", "rests"] []
  fi_Days___eq__ : PySem.W.findIn K (.ref c_Days) "__eq__" = some (some (.ref f_Days___eq__))
  isf_Days___eq__ : PySem.W.isFn K (.ref f_Days___eq__) = true
  F_Days___eq__ : Fun K "__eq__" "Days.__eq__" s_Days___eq__ f_Days___eq__ d_Days___eq__
  bd_Days___eq__ : Binds K d_Days___eq__ ["self", "other"] []
  fi_Days___contains__ : PySem.W.findIn K (.ref c_Days) "__contains__" = some (some (.ref f_Days___contains__))
  isf_Days___contains__ : PySem.W.isFn K (.ref f_Days___contains__) = true
  F_Days___contains__ : Fun K "__contains__" "Days.__contains__" s_Days___contains__ f_Days___contains__ d_Days___contains__
  bd_Days___contains__ : Binds K d_Days___contains__ ["self", "x"] []
  fi_Days___and__ : PySem.W.findIn K (.ref c_Days) "__and__" = some (some (.ref f_Days___and__))
  isf_Days___and__ : PySem.W.isFn K (.ref f_Days___and__) = true
  F_Days___and__ : Fun K "__and__" "Days.__and__" s_Days___and__ f_Days___and__ d_Days___and__
  bd_Days___and__ : Binds K d_Days___and__ ["self", "other"] []
  fi_Days___or__ : PySem.W.findIn K (.ref c_Days) "__or__" = some (some (.ref f_Days___or__))
  isf_Days___or__ : PySem.W.isFn K (.ref f_Days___or__) = true
  F_Days___or__ : Fun K "__or__" "Days.__or__" s_Days___or__ f_Days___or__ d_Days___or__
  bd_Days___or__ : Binds K d_Days___or__ ["self", "other"] []
  fi_Days___sub__ : PySem.W.findIn K (.ref c_Days) "__sub__" = some (some (.ref f_Days___sub__))
  isf_Days___sub__ : PySem.W.isFn K (.ref f_Days___sub__) = true
  F_Days___sub__ : Fun K "__sub__" "Days.__sub__" s_Days___sub__ f_Days___sub__ d_Days___sub__
  bd_Days___sub__ : Binds K d_Days___sub__ ["self", "other"] []
  fi_Days___invert__ : PySem.W.findIn K (.ref c_Days) "__invert__" = some (some (.ref f_Days___invert__))
  isf_Days___invert__ : PySem.W.isFn K (.ref f_Days___invert__) = true
  F_Days___invert__ : Fun K "__invert__" "Days.__invert__" s_Days___invert__ f_Days___invert__ d_Days___invert__
  bd_Days___invert__ : Binds K d_Days___invert__ ["self"] []
  fi_Days___rshift__ : PySem.W.findIn K (.ref c_Days) "__rshift__" = some (some (.ref f_Days___rshift__))
  isf_Days___rshift__ : PySem.W.isFn K (.ref f_Days___rshift__) = true
  F_Days___rshift__ : Fun K "__rshift__" "Days.__rshift__" s_Days___rshift__ f_Days___rshift__ d_Days___rshift__
  bd_Days___rshift__ : Binds K d_Days___rshift__ ["self", "other"] []
  fi_Days___lshift__ : PySem.W.findIn K (.ref c_Days) "__lshift__" = some (some (.ref f_Days___lshift__))
  isf_Days___lshift__ : PySem.W.isFn K (.ref f_Days___lshift__) = true
  F_Days___lshift__ : Fun K "__lshift__" "Days.__lshift__" s_Days___lshift__ f_Days___lshift__ d_Days___lshift__
  bd_Days___lshift__ : Binds K d_Days___lshift__ ["self", "other"] []
  fi_Days___le__ : PySem.W.findIn K (.ref c_Days) "__le__" = some (some (.ref f_Days___le__))
  isf_Days___le__ : PySem.W.isFn K (.ref f_Days___le__) = true
  F_Days___le__ : Fun K "__le__" "Days.__le__" s_Days___le__ f_Days___le__ d_Days___le__
  bd_Days___le__ : Binds K d_Days___le__ ["self", "other"] []
  fi_Days_following : PySem.W.findIn K (.ref c_Days) "following" = some (some (.ref f_Days_following))
  isf_Days_following : PySem.W.isFn K (.ref f_Days_following) = true
  F_Days_following : Fun K "following" "Days.following" s_Days_following f_Days_following d_Days_following
  bd_Days_following : Binds K d_Days_following ["self", "d"] []
  cr_Days : CRead K c_Days (.type "type")
  F_Days_none : Fun K "none" "Days.none" s_Days_none f_Days_none d_Days_none
  bd_Days_none : Binds K d_Days_none [] []
  sme_Days_none : SMet K c_Days (.type "type") "none" p_Days_none f_Days_none
  F_Days_period : Fun K "period" "Days.period" s_Days_period f_Days_period d_Days_period
  bd_Days_period : Binds K d_Days_period ["self"] []
  pp_Days_period : PropOf K c_Days "period" p_Days_period f_Days_period
  g_Stay : mg "Stay" = some (.ref c_Stay)
  cl_Stay : Cls K c_Stay
  own_Stay : OwnC K c_Stay
  na_Stay_first : NoAttr K c_Stay "first"
  na_Stay_after : NoAttr K c_Stay "after"
  na_Stay__nights : NoAttr K c_Stay "_nights"
  fi_Stay___init__ : PySem.W.findIn K (.ref c_Stay) "__init__" = some (some (.ref f_Stay___init__))
  isf_Stay___init__ : PySem.W.isFn K (.ref f_Stay___init__) = true
  F_Stay___init__ : Fun K "__init__" "Stay.__init__" s_Stay___init__ f_Stay___init__ d_Stay___init__
  bd_Stay___init__ : Binds K d_Stay___init__ ["self", "first", "after"] []
  fi_Stay___len__ : PySem.W.findIn K (.ref c_Stay) "__len__" = some (some (.ref f_Stay___len__))
  isf_Stay___len__ : PySem.W.isFn K (.ref f_Stay___len__) = true
  F_Stay___len__ : Fun K "__len__" "Stay.__len__" s_Stay___len__ f_Stay___len__ d_Stay___len__
  bd_Stay___len__ : Binds K d_Stay___len__ ["self"] []
  fi_Stay___iter__ : PySem.W.findIn K (.ref c_Stay) "__iter__" = some (some (.ref f_Stay___iter__))
  isf_Stay___iter__ : PySem.W.isFn K (.ref f_Stay___iter__) = true
  F_Stay___iter__ : Fun K "__iter__" "Stay.__iter__" s_Stay___iter__ f_Stay___iter__ d_Stay___iter__
  bd_Stay___iter__ : Binds K d_Stay___iter__ ["self"] []
  fi_Stay___rshift__ : PySem.W.findIn K (.ref c_Stay) "__rshift__" = some (some (.ref f_Stay___rshift__))
  isf_Stay___rshift__ : PySem.W.isFn K (.ref f_Stay___rshift__) = true
  F_Stay___rshift__ : Fun K "__rshift__" "Stay.__rshift__" s_Stay___rshift__ f_Stay___rshift__ d_Stay___rshift__
  bd_Stay___rshift__ : Binds K d_Stay___rshift__ ["self", "other"] []
  fi_Stay___lshift__ : PySem.W.findIn K (.ref c_Stay) "__lshift__" = some (some (.ref f_Stay___lshift__))
  isf_Stay___lshift__ : PySem.W.isFn K (.ref f_Stay___lshift__) = true
  F_Stay___lshift__ : Fun K "__lshift__" "Stay.__lshift__" s_Stay___lshift__ f_Stay___lshift__ d_Stay___lshift__
  bd_Stay___lshift__ : Binds K d_Stay___lshift__ ["self", "other"] []
  fi_Stay___floordiv__ : PySem.W.findIn K (.ref c_Stay) "__floordiv__" = some (some (.ref f_Stay___floordiv__))
  isf_Stay___floordiv__ : PySem.W.isFn K (.ref f_Stay___floordiv__) = true
  F_Stay___floordiv__ : Fun K "__floordiv__" "Stay.__floordiv__" s_Stay___floordiv__ f_Stay___floordiv__ d_Stay___floordiv__
  bd_Stay___floordiv__ : Binds K d_Stay___floordiv__ ["self", "other"] []
  fi_Stay_meets : PySem.W.findIn K (.ref c_Stay) "meets" = some (some (.ref f_Stay_meets))
  isf_Stay_meets : PySem.W.isFn K (.ref f_Stay_meets) = true
  F_Stay_meets : Fun K "meets" "Stay.meets" s_Stay_meets f_Stay_meets d_Stay_meets
  bd_Stay_meets : Binds K d_Stay_meets ["self", "other"] []
  g_Lengths : mg "Lengths" = some (.ref c_Lengths)
  cl_Lengths : Cls K c_Lengths
  own_Lengths : OwnC K c_Lengths
  na_Lengths__start : NoAttr K c_Lengths "_start"
  na_Lengths__period : NoAttr K c_Lengths "_period"
  na_Lengths__low : NoAttr K c_Lengths "_low"
  na_Lengths__rests : NoAttr K c_Lengths "_rests"
  na_Lengths__marks : NoAttr K c_Lengths "_marks"
  fi_Lengths___init__ : PySem.W.findIn K (.ref c_Lengths) "__init__" = some (some (.ref f_Lengths___init__))
  kt_dl_Lengths___init__ : KTup K dl_Lengths___init__ []
  kt_dr_Lengths___init__ : KTup K dr_Lengths___init__ []
  F_Lengths___init__ : FunD K "__init__" "Lengths.__init__" (defArgs s_Lengths___init__) (defBody s_Lengths___init__) (defScope s_Lengths___init__) [.ref dl_Lengths___init__, .int 1, .ref dr_Lengths___init__] [] f_Lengths___init__ d_Lengths___init__
  bd1_Lengths : ∃ ds, Vals ([V.ref dl_Lengths___init__, .int 1, .ref dr_Lengths___init__].drop 0) ds ∧ Binds K d_Lengths___init__ ["self", "start", "low", "period", "rests"] ds
  bd2_Lengths : ∃ ds, Vals ([V.ref dl_Lengths___init__, .int 1, .ref dr_Lengths___init__].drop 1) ds ∧ Binds K d_Lengths___init__ ["self", "start", "low", "period", "rests"] ds
  bd4_Lengths : ∃ ds, Vals ([V.ref dl_Lengths___init__, .int 1, .ref dr_Lengths___init__].drop 3) ds ∧ Binds K d_Lengths___init__ ["self", "start", "low", "period", "rests"] ds
  fi_Lengths___eq__ : PySem.W.findIn K (.ref c_Lengths) "__eq__" = some (some (.ref f_Lengths___eq__))
  isf_Lengths___eq__ : PySem.W.isFn K (.ref f_Lengths___eq__) = true
  F_Lengths___eq__ : Fun K "__eq__" "Lengths.__eq__" s_Lengths___eq__ f_Lengths___eq__ d_Lengths___eq__
  bd_Lengths___eq__ : Binds K d_Lengths___eq__ ["self", "other"] []
  fi_Lengths___contains__ : PySem.W.findIn K (.ref c_Lengths) "__contains__" = some (some (.ref f_Lengths___contains__))
  isf_Lengths___contains__ : PySem.W.isFn K (.ref f_Lengths___contains__) = true
  F_Lengths___contains__ : Fun K "__contains__" "Lengths.__contains__" s_Lengths___contains__ f_Lengths___contains__ d_Lengths___contains__
  bd_Lengths___contains__ : Binds K d_Lengths___contains__ ["self", "x"] []
  fi_Lengths___or__ : PySem.W.findIn K (.ref c_Lengths) "__or__" = some (some (.ref f_Lengths___or__))
  isf_Lengths___or__ : PySem.W.isFn K (.ref f_Lengths___or__) = true
  F_Lengths___or__ : Fun K "__or__" "Lengths.__or__" s_Lengths___or__ f_Lengths___or__ d_Lengths___or__
  bd_Lengths___or__ : Binds K d_Lengths___or__ ["self", "other"] []
  fi_Lengths___sub__ : PySem.W.findIn K (.ref c_Lengths) "__sub__" = some (some (.ref f_Lengths___sub__))
  isf_Lengths___sub__ : PySem.W.isFn K (.ref f_Lengths___sub__) = true
  F_Lengths___sub__ : Fun K "__sub__" "Lengths.__sub__" s_Lengths___sub__ f_Lengths___sub__ d_Lengths___sub__
  bd_Lengths___sub__ : Binds K d_Lengths___sub__ ["self", "other"] []
  fi_Lengths_at_least : PySem.W.findIn K (.ref c_Lengths) "at_least" = some (some (.ref f_Lengths_at_least))
  isf_Lengths_at_least : PySem.W.isFn K (.ref f_Lengths_at_least) = true
  F_Lengths_at_least : Fun K "at_least" "Lengths.at_least" s_Lengths_at_least f_Lengths_at_least d_Lengths_at_least
  bd_Lengths_at_least : Binds K d_Lengths_at_least ["self", "n"] []
  fi_Lengths_below : PySem.W.findIn K (.ref c_Lengths) "below" = some (some (.ref f_Lengths_below))
  isf_Lengths_below : PySem.W.isFn K (.ref f_Lengths_below) = true
  F_Lengths_below : Fun K "below" "Lengths.below" s_Lengths_below f_Lengths_below d_Lengths_below
  bd_Lengths_below : Binds K d_Lengths_below ["self", "n"] []
  cr_Lengths : CRead K c_Lengths (.type "type")
  F_Lengths_none : Fun K "none" "Lengths.none" s_Lengths_none f_Lengths_none d_Lengths_none
  bd_Lengths_none : Binds K d_Lengths_none [] []
  sme_Lengths_none : SMet K c_Lengths (.type "type") "none" p_Lengths_none f_Lengths_none
  F_Lengths_of : Fun K "of" "Lengths.of" s_Lengths_of f_Lengths_of d_Lengths_of
  sme_Lengths_of : SMet K c_Lengths (.type "type") "of" p_Lengths_of f_Lengths_of
  F_Lengths_since : Fun K "since" "Lengths.since" s_Lengths_since f_Lengths_since d_Lengths_since
  bd_Lengths_since : Binds K d_Lengths_since ["least"] []
  sme_Lengths_since : SMet K c_Lengths (.type "type") "since" p_Lengths_since f_Lengths_since
  F_Lengths_start : Fun K "start" "Lengths.start" s_Lengths_start f_Lengths_start d_Lengths_start
  bd_Lengths_start : Binds K d_Lengths_start ["self"] []
  pp_Lengths_start : PropOf K c_Lengths "start" p_Lengths_start f_Lengths_start
  F_Lengths_period : Fun K "period" "Lengths.period" s_Lengths_period f_Lengths_period d_Lengths_period
  bd_Lengths_period : Binds K d_Lengths_period ["self"] []
  pp_Lengths_period : PropOf K c_Lengths "period" p_Lengths_period f_Lengths_period
  kit_Days : PySem.W.kitOne K (.ref c_Days) (.ref c_Days) = some true
  kit_Lengths : PySem.W.kitOne K (.ref c_Lengths) (.ref c_Lengths) = some true
  si_Days : PySem.W.subIn K (.type "int") (.ref c_Days) = some false
  si_Stay : PySem.W.subIn K (.type "int") (.ref c_Stay) = some false
  g_lcm : mg "lcm" = some (.builtin "math.lcm")
  g__law_pen : mg "_law_pen" = some (.ref f__law_pen)
  F__law_pen : Fun K "_law_pen" "_law_pen" s__law_pen f__law_pen d__law_pen
  bd__law_pen : Binds K d__law_pen ["script"] []
  g__law_draw : mg "_law_draw" = some (.ref f__law_draw)
  F__law_draw : Fun K "_law_draw" "_law_draw" s__law_draw f__law_draw d__law_draw
  bd__law_draw : Binds K d__law_draw ["pen", "many"] []
  g__law_pick : mg "_law_pick" = some (.ref f__law_pick)
  F__law_pick : Fun K "_law_pick" "_law_pick" s__law_pick f__law_pick d__law_pick
  bd__law_pick : Binds K d__law_pick ["pen", "some"] []
  g__law_days : mg "_law_days" = some (.ref f__law_days)
  F__law_days : Fun K "_law_days" "_law_days" s__law_days f__law_days d__law_days
  bd__law_days : Binds K d__law_days ["pen", "some"] []
  g__law_many : mg "_law_many" = some (.ref f__law_many)
  F__law_many : Fun K "_law_many" "_law_many" s__law_many f__law_many d__law_many
  bd__law_many : Binds K d__law_many ["stay_so", "days_so"] []
  g__law_counts_right : mg "_law_counts_right" = some (.ref f__law_counts_right)
  F__law_counts_right : Fun K "_law_counts_right" "_law_counts_right" s__law_counts_right f__law_counts_right d__law_counts_right
  bd__law_counts_right : Binds K d__law_counts_right ["stay_so", "one", "other"] []
  g__law_moved_right : mg "_law_moved_right" = some (.ref f__law_moved_right)
  F__law_moved_right : Fun K "_law_moved_right" "_law_moved_right" s__law_moved_right f__law_moved_right d__law_moved_right
  bd__law_moved_right : Binds K d__law_moved_right ["pen", "stay_so", "one"] []
  g__law_parts_right : mg "_law_parts_right" = some (.ref f__law_parts_right)
  F__law_parts_right : Fun K "_law_parts_right" "_law_parts_right" s__law_parts_right f__law_parts_right d__law_parts_right
  bd__law_parts_right : Binds K d__law_parts_right ["pen", "stay_so", "one"] []
  g__law_listed_right : mg "_law_listed_right" = some (.ref f__law_listed_right)
  F__law_listed_right : Fun K "_law_listed_right" "_law_listed_right" s__law_listed_right f__law_listed_right d__law_listed_right
  bd__law_listed_right : Binds K d__law_listed_right ["stay_so"] []
  g_law : mg "law" = some (.ref f_law)
  F_law : Fun K "law" "law" s_law f_law d_law
  bd_law : Binds K d_law ["script"] []
  b_isinstance : mg "isinstance" = none
  b_int : mg "int" = none
  b_bool : mg "bool" = none
  b_len : mg "len" = none
  b_tuple : mg "tuple" = none
  b_range : mg "range" = none
  b_list : mg "list" = none
  b_abs : mg "abs" = none
  b_all : mg "all" = none
  b_max : mg "max" = none
  b_divmod : mg "divmod" = none
  b_iter : mg "iter" = none
  g_LAST_DAY : ∃ t, mg "LAST_DAY" = some (.int 999999999999 t)
  cv_Days_MOST : ∃ u, CVal K c_Days (.type "type") "MOST" (.int 7) u
  cr_Stay : CRead K c_Stay (.type "type")
  cv_Stay_MOST : ∃ u, CVal K c_Stay (.type "type") "MOST" (.int 400) u
  cv_Lengths_MOST : ∃ u, CVal K c_Lengths (.type "type") "MOST" (.int 400) u
  mk_Days : Mk K c_Days f_Days___init__
  me_Days_following : Meth K c_Days "following" f_Days_following
  eq_Days : EqM K c_Days f_Days___eq__
  sm_Days___contains__ : SpM K c_Days f_Days___contains__ "__contains__"
  op_Days_and : OpM K .BitAnd c_Days f_Days___and__
  ip_Days_and : NoIp K .BitAnd c_Days
  op_Days_or : OpM K .BitOr c_Days f_Days___or__
  ip_Days_or : NoIp K .BitOr c_Days
  op_Days_sub : OpM K .Sub c_Days f_Days___sub__
  ip_Days_sub : NoIp K .Sub c_Days
  op_Days_rshift : OpM K .RShift c_Days f_Days___rshift__
  op_Days_lshift : OpM K .LShift c_Days f_Days___lshift__
  cm_Days_le : CmpM K .LtE c_Days f_Days___le__
  mk_Stay : Mk K c_Stay f_Stay___init__
  me_Stay_meets : Meth K c_Stay "meets" f_Stay_meets
  sm_Stay___len__ : SpM K c_Stay f_Stay___len__ "__len__"
  sm_Stay___iter__ : SpM K c_Stay f_Stay___iter__ "__iter__"
  op_Stay_rshift : OpM K .RShift c_Stay f_Stay___rshift__
  op_Stay_lshift : OpM K .LShift c_Stay f_Stay___lshift__
  op_Stay_floordiv : OpM K .FloorDiv c_Stay f_Stay___floordiv__
  mk_Lengths : Mk K c_Lengths f_Lengths___init__
  me_Lengths_at_least : Meth K c_Lengths "at_least" f_Lengths_at_least
  me_Lengths_below : Meth K c_Lengths "below" f_Lengths_below
  eq_Lengths : EqM K c_Lengths f_Lengths___eq__
  sm_Lengths___contains__ : SpM K c_Lengths f_Lengths___contains__ "__contains__"
  op_Lengths_or : OpM K .BitOr c_Lengths f_Lengths___or__
  op_Lengths_sub : OpM K .Sub c_Lengths f_Lengths___sub__
end NN

open AW L2
-- what is known at an address
local macro_rules | `(tactic| walk_at "kn") => `(tactic| first
  | assumption
  | exact upd_same
  | ((with_reducible refine' keep2 ?h1 ?h2); (case h1 => first | assumption | (exact Ne.symm (by assumption))); (case h2 => walk_at "kn"))
  | ((with_reducible refine' know ?h1 ?h2); (case h1 => assumption); (case h2 => walk_at "kn"))
  | ((with_reducible refine' Ext.know ?h1 ?h2); (case h1 => assumption); (case h2 => walk_at "kn")))
-- one step
local macro_rules | `(tactic| walk_at "w1") => `(tactic| first
  | ((with_reducible refine' w_var ?hv ?_); (case hv => rfl))
  | with_reducible refine' w_c ?_
  | with_reducible refine' w_op ?_
  | with_reducible refine' r_I0 ?_
  | with_reducible refine' w_nil ?_
  | with_reducible refine' w_cons ?_
  | with_reducible refine' w_cb ?_
  | with_reducible refine' r_int1 ?_
  | with_reducible refine' r_int1b ?_
  | with_reducible refine' r_abs ?_
  | ((with_reducible refine' r_lenL ?h1 ?_); (case h1 => walk_at "kn"))
  | ((with_reducible refine' r_lenT ?h1 ?_); (case h1 => walk_at "kn"))
  | ((with_reducible refine' r_neV ?h1 ?_); (case h1 => rfl))
  | ((with_reducible refine' r_eqV ?h1 ?_); (case h1 => rfl))
  | ((with_reducible refine' r_eq ?h1 ?_); (case h1 => rfl))
  | ((with_reducible refine' r_ne ?h1 ?_); (case h1 => rfl))
  | ((with_reducible refine' r_ixL ?h1 ?h2 ?_); (case h1 => walk_at "kn"); (case h2 => rfl))
  | ((with_reducible refine' r_ixT ?h1 ?h2 ?_); (case h1 => walk_at "kn"); (case h2 => rfl))
  | with_reducible refine' w_test ?_
  | with_reducible refine' w_B ?_
  | with_reducible refine' w_un ?_
  | with_reducible refine' r_U ?_
  | with_reducible refine' w_and ?_
  | with_reducible refine' w_or ?_
  | with_reducible refine' w_not ?_
  | with_reducible refine' w_andV ?_
  | with_reducible refine' w_orV ?_
  | with_reducible refine' w_notV ?_
  | with_reducible refine' w_ifE ?_
  | with_reducible refine' r_isNt ?_
  | with_reducible refine' r_isNr ?_
  | with_reducible refine' w_chain ?_
  | with_reducible refine' w_tupRg ?_
  | with_reducible refine' w_joined ?_
  | with_reducible refine' w_js0 ?_
  | with_reducible refine' w_js ?_
  | with_reducible refine' w_cval ?_
  | with_reducible refine' s_fld ?_
  | with_reducible refine' w_tup ?_
  | with_reducible refine' w_lst ?_
  | with_reducible refine' w_sl ?_
  | with_reducible refine' w_part ?_
  | with_reducible refine' w_noPart ?_
  | with_reducible refine' s_seq ?_
  | with_reducible refine' s_next ?_
  | with_reducible refine' s_ret ?_
  | with_reducible refine' s_retN ?_
  | with_reducible refine' s_drop ?_
  | with_reducible refine' s_brk ?_
  | with_reducible refine' s_cont ?_
  | with_reducible refine' s_set ?_
  | with_reducible refine' s_asg ?_
  | with_reducible refine' s_par ?_
  | ((with_reducible refine' s_aug ?h1 ?_); (case h1 => rfl))
  | with_reducible refine' g_name ?_
  | with_reducible refine' g_cons ?_
  | with_reducible refine' g_nil ?_
  | with_reducible refine' g_set ?_
  | with_reducible refine' both_t ?_
  | with_reducible refine' both_f ?_
  | with_reducible refine' both_nt ?_
  | with_reducible refine' both_nf ?_
  | with_reducible refine' bor_t ?_
  | with_reducible refine' bor_f ?_
  | with_reducible refine' bor_nt ?_
  | with_reducible refine' bor_nf ?_
  | with_reducible refine' ⟨_, rfl, ?_⟩)
local macro_rules | `(tactic| walk_at "w") => `(tactic| repeat (first | walk_at "w1" | dsimp only))
local macro_rules | `(tactic| walk_at "if") => `(tactic| ((with_reducible refine' s_if ?_); walk_at "w"; refine ⟨fun hb => ?_, fun hb => ?_⟩))
local macro_rules | `(tactic| walk_at "wi") => `(tactic| repeat (first | walk_at "w1" | with_reducible refine' s_if ?_ | dsimp only))

namespace NN
open PySem PySem.Spec PyProof.Rows L2 LamX AW ClX
/-! ### promises -/
/-- a value that is no whole number -/
def Odd (K : PySem.W.Frag) (kn : Hp) (x : V) : Prop := ∃ t bi, TyX K kn x t ∧ PySem.W.kitOne K t (.type "int") = some bi ∧ (bi = true → PySem.W.kitOne K t (.type "bool") = some true)
def bWhole (K : PySem.W.Frag) : List V → Hp → AK → AXK → Prop := fun vs kn Q _ => ∃ x, vs = [x] ∧ ((∃ i, x = .int i ∧ Q (.bl true) kn) ∨ (Odd K kn x ∧ Q (.bl false) kn))
def bFrom (K : PySem.W.Frag) : List V → Hp → AK → AXK → Prop := fun vs kn Q _ => ∃ x lo hi, vs = [x, .int lo, .int hi] ∧ ((∃ i, x = .int i ∧ Q (.bl (decide (lo ≤ i) && decide (i ≤ hi))) kn) ∨ (Odd K kn x ∧ Q (.bl false) kn))
abbrev lastDay : Int := 999999999999
def bDay (K : PySem.W.Frag) : List V → Hp → AK → AXK → Prop := fun vs kn Q _ => ∃ x, vs = [x] ∧ ((∃ i, x = .int i ∧ Q (.bl (decide (-lastDay ≤ i) && decide (i ≤ lastDay))) kn) ∨ (Odd K kn x ∧ Q (.bl false) kn))
section
variable {K : PySem.W.Frag}
theorem mo_whole : MonoX (bWhole K) := by
  rintro vs kn Q R E F h1 h2 ⟨x, e, ⟨i, e2, h⟩ | ⟨o, h⟩⟩
  · exact ⟨x, e, .inl ⟨i, e2, h1 _ _ h⟩⟩
  · exact ⟨x, e, .inr ⟨o, h1 _ _ h⟩⟩
theorem mo_from : MonoX (bFrom K) := by
  rintro vs kn Q R E F h1 h2 ⟨x, lo, hi, e, ⟨i, e2, h⟩ | ⟨o, h⟩⟩
  · exact ⟨x, lo, hi, e, .inl ⟨i, e2, h1 _ _ h⟩⟩
  · exact ⟨x, lo, hi, e, .inr ⟨o, h1 _ _ h⟩⟩
theorem mo_day : MonoX (bDay K) := by
  rintro vs kn Q R E F h1 h2 ⟨x, e, ⟨i, e2, h⟩ | ⟨o, h⟩⟩
  · exact ⟨x, e, .inl ⟨i, e2, h1 _ _ h⟩⟩
  · exact ⟨x, e, .inr ⟨o, h1 _ _ h⟩⟩
theorem odd_ext {kn kn' : Hp} {x : V} (e : Ext kn kn') (h : Odd K kn x) : Odd K kn' x := by
  obtain ⟨t, bi, a, b, d⟩ := h
  exact ⟨t, bi, tyx_ext e a, b, d⟩
end
section
variable {P : Program} {w : World} {K : PySem.W.Frag} {mg : Str → Option Value} {base : Heap}
theorem ok_is_whole (T : Tx K mg) : FnOk P w K mg base CX0 1 T.f_is_whole T.d_is_whole ["value"] (liftX (bWhole K)) := by
  refine T.F_is_whole.ok sc_is_whole (fun vs H Q E h => ?_) (fun cdv A outer s H vs Q E hr h => ?_)
  · obtain ⟨kn, _, _, x, rfl, _⟩ := h
    rfl
  · obtain ⟨kn, e, nt, x, rfl, h⟩ := h
    refine ⟨_, (pss_one (ps_ret (pe_and (pe_callB call_isi (by rfl) T.b_isinstance (by decide +kernel) (pa_cons (pv 0) (pa_cons (pe_bltn (v := .ty "int") (u := .type "int") (by rfl) T.b_int (by decide +kernel) rfl) pa_nil))) (pe_one (pe_not (pe_callB call_isi (by rfl) T.b_isinstance (by decide +kernel) (pa_cons (pv 0) (pa_cons (pe_bltn (v := .ty "bool") (u := .type "bool") (by rfl) T.b_bool (by decide +kernel) rfl) pa_nil)))))))), ?_⟩
    refine body_of (pure_start e nt) ?_
    walk_at "wi"
    rcases h with ⟨i, rfl, h⟩ | ⟨⟨t, bi, ty, e1, e2⟩, h⟩
    · refine r_isi (.ty _) (.base (.int i)) (kit_ty rfl) ?_
      walk_at "wi"
      refine r_isi (.ty _) (.base (.int i)) (kit_ty rfl) ?_
      walk_at "wi"
      exact h 0
    · refine r_isi (.ty _) ty e1 ?_
      walk_at "wi"
      refine ⟨fun hb => ?_, fun hb => h 0⟩
      walk_at "wi"
      refine r_isi (.ty _) ty (e2 hb) ?_
      walk_at "wi"
      exact h 0
theorem ok_is_from (T : Tx K mg) : FnOk P w K mg base CX0 2 T.f_is_from T.d_is_from ["value", "least", "most"] (liftX (bFrom K)) := by
  refine T.F_is_from.ok sc_is_from (fun vs H Q E h => ?_) (fun cdv A outer s H vs Q E hr h => ?_)
  · obtain ⟨kn, _, _, x, lo, hi, rfl, _⟩ := h
    rfl
  · obtain ⟨kn, e, nt, x, lo, hi, rfl, h⟩ := h
    refine ⟨_, (pss_one (ps_ret (pe_and (pe_call (ok_is_whole T) (hr.mono (by decide)) (by rfl) T.g_is_whole T.F_is_whole.kp T.bd_is_whole .nil pass0 (pa_cons (pv 0) pa_nil)) (pe_one (pe_chain op_le op_le (pv 1) (pv 0) (pv 2)))))), ?_⟩
    refine body_of (pure_start e nt) ?_
    walk_at "wi"
    refine w_call mo_whole err_no ?_
    walk_at "wi"
    refine ⟨_, rfl, ?_⟩
    rcases h with ⟨i, rfl, h⟩ | ⟨o, h⟩
    · refine .inl ⟨i, rfl, ?_⟩
      walk_at "wi"
      refine ⟨fun hb => ?_, fun hb => ?_⟩
      · walk_at "wi"
        rw [hb] at h
        exact h 0
      · rw [hb] at h
        exact h 0
    · refine .inr ⟨o, ?_⟩
      walk_at "wi"
      exact h 0
theorem ok_is_day (T : Tx K mg) : FnOk P w K mg base CX0 3 T.f_is_day T.d_is_day ["value"] (liftX (bDay K)) := by
  refine T.F_is_day.ok sc_is_day (fun vs H Q E h => ?_) (fun cdv A outer s H vs Q E hr h => ?_)
  · obtain ⟨kn, _, _, x, rfl, _⟩ := h
    rfl
  · obtain ⟨kn, e, nt, x, rfl, h⟩ := h
    refine ⟨_, (pss_one (ps_ret (pe_call (ok_is_from T) (hr.mono (by decide)) (by rfl) T.g_is_from T.F_is_from.kp T.bd_is_from .nil pass0 (pa_cons (pv 0) (pa_cons (pe_un un_neg (pe_glob (v := .int 999999999999) (by rfl) (Classical.choose_spec T.g_LAST_DAY) ⟨_, rfl⟩)) (pa_cons (pe_glob (v := .int 999999999999) (by rfl) (Classical.choose_spec T.g_LAST_DAY) ⟨_, rfl⟩) pa_nil)))))), ?_⟩
    refine body_of (pure_start e nt) ?_
    walk_at "wi"
    refine w_call mo_from err_no ?_
    walk_at "wi"
    refine ⟨_, _, _, rfl, ?_⟩
    rcases h with ⟨i, rfl, h⟩ | ⟨o, h⟩
    · exact .inl ⟨i, rfl, h 0⟩
    · exact .inr ⟨o, h 0⟩
end

end NN

namespace NN
open PySem PySem.Spec PyProof.Rows L2 LamX AW ClX
open Tx1 Ln
theorem ext_new {kn : Hp} {q : Addr} {o : HO} (h : kn q = none) : Ext kn (upd kn q o) := fun x u e => know h e
theorem ext_tr {a b c : Hp} (h : Ext a b) (k : Ext b c) : Ext a c := fun x o e => k x o (h x o e)
theorem ext_rf {a : Hp} : Ext a a := fun _ _ h => h
theorem free_ext {kn kn' : Hp} {q : Addr} (x : Ext kn kn') (h : kn' q = none) : kn q = none := by
  cases z : kn q with
  | none => rfl
  | some o => rw [x _ _ z] at h; cases h
abbrev natV (xs : List Nat) : List V := xs.map fun (n : Nat) => V.int n
abbrev blV (t : List Bool) : List V := t.map V.bl
/-- any value of those that are told -/
def AnyN (K : PySem.W.Frag) (kn : Hp) (x : V) : Prop := (∃ i, x = .int i) ∨ Odd K kn x
theorem any_ext {K : PySem.W.Frag} {kn kn' : Hp} {x : V} (e : Ext kn kn') (h : AnyN K kn x) : AnyN K kn' x := h.imp id (odd_ext e)
def okV (lo hi : Int) : V → Bool
  | .int i => decide (lo ≤ i) && decide (i ≤ hi)
  | _ => false
/-- what may stand for rests: a list or a tuple, its items; or none of both -/
def RestsV (K : PySem.W.Frag) (kn : Hp) (v : V) : Option (List V) → Prop
  | some xs => SeqV K kn v xs ∧ xs.length ≤ 1000 ∧ ∀ x ∈ xs, AnyN K kn x
  | none => ∃ t, TyX K kn v t ∧ PySem.W.kitOne K t (.type "list") = some false ∧ PySem.W.kitOne K t (.type "tuple") = some false
theorem rests_ext {K : PySem.W.Frag} {kn kn' : Hp} {v : V} {o : Option (List V)} (e : Ext kn kn') (h : RestsV K kn v o) : RestsV K kn' v o := by
  cases o with
  | none => obtain ⟨t, a, b, c⟩ := h; exact ⟨t, tyx_ext e a, b, c⟩
  | some xs => obtain ⟨a, b, c⟩ := h; exact ⟨SeqV.ext e a, b, fun x hx => any_ext e (c x hx)⟩
def okO (lo hi : Int) : Option (List V) → Bool
  | some xs => xs.all (okV lo hi)
  | none => false
def bAre (K : PySem.W.Frag) : List V → Hp → AK → AXK → Prop := fun vs kn Q _ => ∃ v o lo hi, vs = [v, .int lo, .int hi] ∧ RestsV K kn v o ∧ ∀ k', Ext kn k' → Q (.bl (okO lo hi o)) k'
theorem mo_are {K : PySem.W.Frag} : MonoX (bAre K) := by
  rintro vs kn Q R E F h1 h2 ⟨v, xs, lo, hi, a, b, h⟩
  exact ⟨v, xs, lo, hi, a, b, fun k e => h1 _ _ (h k e)⟩
theorem okV_odd {K : PySem.W.Frag} {kn : Hp} {x : V} {lo hi : Int} (h : Odd K kn x) : okV lo hi x = false := by
  cases x with
  | int i =>
    obtain ⟨t, bi, ty, k1, k2⟩ := h
    exfalso
    have tt : t = .type "int" := by
      cases ty with
      | base b => cases b; rfl
    subst tt
    have e1 : PySem.W.kitOne K (.type "int") (.type "int") = some true := kit_ty rfl
    rw [e1] at k1
    have e2 : PySem.W.kitOne K (.type "int") (.type "bool") = some false := kit_ty rfl
    have e3 := k2 (Option.some.inj k1).symm
    rw [e2] at e3
    cases e3
  | _ => rfl
section
variable {P : Program} {w : World} {K : PySem.W.Frag} {mg : Str → Option Value} {base : Heap}
theorem ok_are_from (T : Tx K mg) : FnOk P w K mg base CX0 3 T.f_are_from T.d_are_from ["values", "least", "most"] (liftX (bAre K)) := by
  refine T.F_are_from.ok sc_are_from (fun vs H Q E h => ?_) (fun cdv A outer s H vs Q E hr h => ?_)
  · obtain ⟨kn, _, _, v, xs, lo, hi, rfl, _⟩ := h
    rfl
  · obtain ⟨kn, ex, nt, v, o, lo, hi, rfl, sv, h⟩ := h
    refine ⟨_, (pss_one (ps_ret (pe_and (pe_callB call_isiT (by rfl) T.b_isinstance (by decide +kernel) (pa_cons (pv 0) (pa_cons (pe_tup (pa_cons (pe_bltn (v := .ty "list") (u := .type "list") (by rfl) T.b_list (by decide +kernel) rfl) (pa_cons (pe_bltn (v := .ty "tuple") (u := .type "tuple") (by rfl) T.b_tuple (by decide +kernel) rfl) pa_nil))) pa_nil))) (pe_one (pe_callB (c_allQ rfl) (by rfl) T.b_all (by decide +kernel) (pa_cons (pe_lc (own := [("value", 3)]) (g := gName 3) (by rfl) sc_are_from.nd (pi_seq (pv 0)) (blkOk_by (own := [("value", 3)]) (N := ["values", "least", "most", "value"]) (sc := defScope s_are_from) (by decide +kernel)) (fun _ _ _ _ _ => pg_name (i := 3) sc_are_from.nd rfl (Or.inl rfl)) (fun _ _ _ _ _ => pts_nil) (fun _ _ _ _ _ => (pe_call (ok_is_from T) (hr.mono (by decide)) (by rfl) T.g_is_from T.F_is_from.kp T.bd_is_from .nil pass0 (pa_cons (pv 3) (pa_cons (pv 1) (pa_cons (pv 2) pa_nil)))))) pa_nil)))))), ?_⟩
    refine body_of (pure_start ex nt) ?_
    walk_at "wi"
    refine ⟨show 2 ≤ 1000 by decide, fun tp htp => ?_⟩
    have e1 : Ext kn (upd kn tp (.tup [.ty "list", .ty "tuple"])) := ext_new htp
    have t1 : (upd kn tp (.tup [.ty "list", .ty "tuple"])) tp = some (.tup [.ty "list", .ty "tuple"]) := upd_same
    have sv1 := rests_ext e1 sv
    generalize upd kn tp (.tup [.ty "list", .ty "tuple"]) = kn1 at e1 t1 sv1 ⊢
    cases o with
    | none =>
      obtain ⟨t, ty, z1, z2⟩ := sv1
      have kt : PySem.W.kitAny K t [.type "list", .type "tuple"] = some false := by
        unfold PySem.W.kitAny
        rw [z1]
        unfold PySem.W.kitAny
        rw [z2]
        unfold PySem.W.kitAny
        rfl
      walk_at "wi"
      refine r_isiT t1 (.cons (.ty _) (.cons (.ty _) .nil)) ty kt ?_
      walk_at "wi"
      exact h _ e1 0
    | some xs =>
      obtain ⟨sv1, lx, hx⟩ := sv1
      have kt : ∀ {t : Value}, TyX K kn1 v t → (t = .type "list" ∨ t = .type "tuple") → PySem.W.kitAny K t [.type "list", .type "tuple"] = some true := fun {t} _ ht => by
        rcases ht with rfl | rfl
        · unfold PySem.W.kitAny
          rw [kit_ty rfl]
        · unfold PySem.W.kitAny
          rw [show PySem.W.kitOne K (.type "tuple") (.type "list") = some false from kit_ty rfl]
          unfold PySem.W.kitAny
          rw [kit_ty rfl]
      obtain ⟨t, ty, ht⟩ : ∃ t, TyX K kn1 v t ∧ (t = .type "list" ∨ t = .type "tuple") := sv1.ty.elim (fun z => ⟨_, z, .inl rfl⟩) (fun z => ⟨_, z, .inr rfl⟩)
      walk_at "wi"
      refine r_isiT t1 (.cons (.ty _) (.cons (.ty _) .nil)) ty (kt ty ht) ?_
      walk_at "wi"
      refine w_lcP (i_seq3 rfl ext_rf sv1 fun J ka G hka => ?_)
      refine ⟨_, ka, fun x => .bl (okV lo hi x), fun _ => true, G, by omega, hka, fun x hx2 k ek => ?_, fun D hD => ?_⟩
      · walk_at "w"
        refine ⟨rfl, w_yesT ?_⟩
        refine ⟨rfl, rfl, rfl, fun _ => ?_⟩
        walk_at "w"
        refine w_call mo_from err_no ?_
        walk_at "w"
        rcases hx x hx2 with ⟨i, rfl⟩ | od
        · exact ⟨_, _, _, rfl, .inl ⟨_, rfl, rfl, rfl, rfl⟩⟩
        · refine ⟨_, _, _, rfl, .inr ⟨odd_ext ek od, ?_, rfl, rfl⟩⟩
          rw [okV_odd od]
      · walk_at "wi"
        have e : (List.map (fun x => V.bl (okV lo hi x)) (List.filter (fun _ => true) xs)) = (xs.map (okV lo hi)).map V.bl := by
          rw [List.filter_eq_self.2 (fun _ _ => rfl), List.map_map]
          rfl
        rw [e]
        refine r_allQ upd_same ?_
        rw [show (xs.map (okV lo hi)).all id = okO lo hi (some xs) by rw [List.all_map]; rfl]
        exact h _ (ext_tr e1 (ext_new hD)) 0
end

end NN

namespace NN
open PySem PySem.Spec PyProof.Rows L2 LamX AW ClX
open Tx1 Ln
theorem ixN_of {n j : Nat} (hj : j < n) : ixN n (j : Int) = some j := by
  unfold ixN
  rw [if_pos (by omega), if_pos (by omega), Int.toNat_natCast]
theorem cut_lo (xs : List V) (p : Nat) : cutV xs (some (p : Int)) none = xs.drop p := by
  unfold cutV
  rw [HT.sIx_nat, HT.sIx_none]
  apply List.ext_getElem?
  intro i
  rw [List.getElem?_take, List.getElem?_drop, List.getElem?_drop]
  by_cases h : p ≤ xs.length
  · rw [Nat.min_eq_left h]
    by_cases h2 : i < xs.length - p
    · rw [if_pos h2]
    · rw [if_neg h2, List.getElem?_eq_none (by omega)]
  · rw [Nat.min_eq_right (by omega), if_neg (by omega), List.getElem?_eq_none (by omega)]
theorem cut_hi (xs : List V) (p : Nat) : cutV xs none (some (p : Int)) = xs.take p := by
  unfold cutV
  rw [HT.sIx_nat, HT.sIx_none, List.drop_zero, Nat.sub_zero]
  by_cases h : p ≤ xs.length
  · rw [Nat.min_eq_left h]
  · rw [Nat.min_eq_right (by omega), List.take_of_length_le (by omega), List.take_of_length_le (by omega)]
theorem dp_bls {K : PySem.W.Frag} {H : Hp} : ∀ t : List Bool, DpAll K H (blV t) (t.map PyData.bool)
  | [] => .nil
  | b :: t => .cons (.bl b) (dp_bls t)
theorem lay_bls : ∀ t : List Bool, PyData.canLayAll0 (t.map PyData.bool) = true
  | [] => by simp [PyData.canLayAll0]
  | b :: t => by simp only [List.map_cons, PyData.canLayAll0, PyData.canLay0]; rw [lay_bls t]; rfl
theorem deep_bls : ∀ t : List Bool, PyData.depthAll (t.map PyData.bool) = 0
  | [] => by simp [PyData.depthAll]
  | b :: t => by simp only [List.map_cons, PyData.depthAll, PyData.depth]; rw [deep_bls t]; rfl
theorem shaped_bls (t : List Bool) : SeqAt.shaped (.list (t.map PyData.bool)) = true := by
  unfold SeqAt.shaped
  rw [show PyData.canLay0 (.list (t.map PyData.bool)) = true by simp only [PyData.canLay0]; exact lay_bls t, show PyData.depth (.list (t.map PyData.bool)) = 1 by simp only [PyData.depth]; rw [deep_bls t]]
  rfl
theorem shaped_blT (t : List Bool) : SeqAt.shaped (.tuple (t.map PyData.bool)) = true := by
  unfold SeqAt.shaped
  rw [show PyData.canLay0 (.tuple (t.map PyData.bool)) = true by simp only [PyData.canLay0]; exact lay_bls t, show PyData.depth (.tuple (t.map PyData.bool)) = 1 by simp only [PyData.depth]; rw [deep_bls t]]
  rfl
theorem eqv_bls : ∀ a b : List Bool, PyData.eqvAll (a.map PyData.bool) (b.map PyData.bool) = decide (a = b)
  | [], [] => by simp [PyData.eqvAll]
  | [], _ :: _ => by simp [PyData.eqvAll]
  | _ :: _, [] => by simp [PyData.eqvAll]
  | x :: a, y :: b => by
    simp only [List.map_cons, PyData.eqvAll, PyData.eqv, eqv_bls a b]
    cases x <;> cases y <;> simp
theorem eqv_blL (a b : List Bool) : PyData.eqv (.list (a.map PyData.bool)) (.list (b.map PyData.bool)) = decide (a = b) := by
  simp only [PyData.eqv]
  exact eqv_bls a b
theorem eqv_blT (a b : List Bool) : PyData.eqv (.tuple (a.map PyData.bool)) (.tuple (b.map PyData.bool)) = decide (a = b) := by
  simp only [PyData.eqv]
  exact eqv_bls a b
theorem mask_set {size n : Nat} {ys : List Nat} (h : n < size) : (maskOf size ys).set n true = maskOf size (ys ++ [n]) := by
  apply ext_ix (by rw [List.length_set, mask_len, mask_len])
  intro i hi
  rw [List.length_set, mask_len] at hi
  rw [ix_mask hi]
  unfold ix
  rw [List.getD_eq_getElem?_getD, List.getElem?_set, mask_len]
  by_cases e : n = i
  · subst e
    simp [h]
  · rw [if_neg e, ← List.getD_eq_getElem?_getD]
    show ix (maskOf size ys) i = _
    rw [ix_mask hi]
    refine decide_eq_decide.2 ?_
    simp only [List.mem_append, List.mem_singleton]
    constructor
    · exact .inl
    · rintro (h | h)
      · exact h
      · exact absurd h.symm e
theorem mask_nil (size : Nat) : (List.replicate size [V.bl false]).flatten = blV (maskOf size []) := by
  unfold blV maskOf
  rw [List.map_map]
  induction size with
  | zero => rfl
  | succ m ih =>
    rw [List.replicate_succ', List.flatten_append, ih, List.range_succ, List.map_append]
    rfl
theorem int_eq {i j : Int} : decide (V.int i = V.int j) = decide (i = j) := decide_eq_decide.mpr ⟨V.int.inj, congrArg _⟩
def bMarked (K : PySem.W.Frag) : List V → Hp → AK → AXK → Prop := fun vs kn Q _ => ∃ (size : Nat) (v : V) (xs : List Nat), vs = [.int size, v] ∧ SeqV K kn v (natV xs) ∧ xs.length ≤ 1000 ∧ size ≤ 1000 ∧ (∀ n ∈ xs, n < size) ∧
  ∀ q k', Ext kn k' → kn q = none → k' q = some (.lst (blV (maskOf size xs))) → Q (.ref q) k'
theorem mo_marked {K : PySem.W.Frag} : MonoX (bMarked K) := by
  rintro vs kn Q R E F h1 h2 ⟨size, v, xs, a, b, c, d, e, h⟩
  exact ⟨size, v, xs, a, b, c, d, e, fun q k z1 z2 z3 => h1 _ _ (h q k z1 z2 z3)⟩
def bLeast : List V → Hp → AK → AXK → Prop := fun vs kn Q _ => ∃ (a : Addr) (t : List Bool), vs = [.ref a] ∧ kn a = some (.lst (blV t)) ∧ 1 ≤ t.length ∧ t.length ≤ 500 ∧ ∀ k', Ext kn k' → Q (.int (leastP t)) k'
theorem mo_least : MonoX bLeast := by
  rintro vs kn Q R E F h1 h2 ⟨a, t, b, c, d, e, h⟩
  exact ⟨a, t, b, c, d, e, fun k z => h1 _ _ (h k z)⟩
section
variable {P : Program} {w : World} {K : PySem.W.Frag} {mg : Str → Option Value} {base : Heap}
theorem ok_marked (T : Tx K mg) : FnOk P w K mg base CX0 1 T.f_marked T.d_marked ["size", "numbers"] (liftX (bMarked K)) := by
  refine T.F_marked.ok sc_marked (fun vs H Q E h => ?_) (fun cdv A outer s H vs Q E hr h => ?_)
  · obtain ⟨kn, _, _, size, v, xs, rfl, _⟩ := h
    rfl
  · obtain ⟨kn, ex, nt, size, v, xs, rfl, sv, lx, ls, mx, h⟩ := h
    refine ⟨_, (pss_cons (ps_set (i := 2) sc_marked.nd rfl (by first | exact Or.inl rfl | exact Or.inr rfl) (pe_op op_repQ (pe_lst (pa_cons pe_bl pa_nil)) (pv 0)))
       (pss_cons (ps_for PassesOwn.never rfl (pi_seq (pv 1)) (pg_name (i := 3) sc_marked.nd rfl (by first | exact Or.inl rfl | exact Or.inr rfl))
       (pss_one (ps_asg pe_bl (pg_sub (pv 2) (pv 3) set_list))))
       (pss_one (ps_ret (pv 2))))), ?_⟩
    refine body_of (pure_start ex nt) ?_
    walk_at "wi"
    refine ⟨show 1 ≤ 1000 by decide, fun l hl => ?_⟩
    walk_at "wi"
    refine r_repQ upd_same (by omega) (by omega) (by show 1 * _ ≤ _; omega) fun p hp => ?_
    rw [Int.toNat_natCast, mask_nil]
    have e1 : Ext kn (upd (upd kn l (.lst [.bl false])) p (.lst (blV (maskOf size [])))) := ext_tr (ext_new hl) (ext_new hp)
    have hp0 := free_ext (ext_new hl) hp
    have p1 : (upd (upd kn l (.lst [.bl false])) p (.lst (blV (maskOf size [])))) p = some (.lst (blV (maskOf size []))) := upd_same
    generalize upd (upd kn l (.lst [.bl false])) p (.lst (blV (maskOf size []))) = kn1 at e1 p1 ⊢
    walk_at "wi"
    refine s_forJ (i_seq3 rfl e1 sv fun J ka G hka => ?_)
    refine ⟨_, ka, fun j σ' k m => m = 0 ∧ (∃ y3, σ' = [some (.int size), some v, some (.ref p), y3]) ∧ Ext kn k ∧ k p = some (.lst (blV (maskOf size (xs.take j)))), G, ⟨rfl, ⟨_, rfl⟩, e1, p1⟩, fun j σ' k m hh => hka _ hh.2.2.1, ?_, ?_⟩
    · rintro j x σ' k m hx ⟨rfl, ⟨y3, rfl⟩, ek, kp⟩
      rw [List.getElem?_map] at hx
      obtain ⟨n, hn, rfl⟩ := Option.map_eq_some_iff.1 hx
      have hs := mx n (List.mem_of_getElem? hn)
      walk_at "wi"
      refine ⟨p, _, _, n, rfl, rfl, kp, ixN_of (by rw [List.length_map, mask_len]; exact hs), ?_⟩
      walk_at "wi"
      refine ⟨rfl, ⟨_, rfl⟩, fun y o hy => ?_, ?_⟩
      · rw [upd_ne (fun z => by rw [z, hp0] at hy; cases hy)]
        exact ek y o hy
      · rw [upd_same, List.take_add_one, hn, show (some n).toList = [n] from rfl, ← mask_set hs]
        show some (HO.lst ((List.map V.bl (maskOf size (List.take j xs))).set n (V.bl true))) = _
        rw [← List.map_set]
    · rintro σ' k m ⟨rfl, ⟨y3, rfl⟩, ek, kp⟩
      walk_at "wi"
      rw [List.length_map, List.take_length] at kp
      exact h p k ek hp0 kp 0
theorem ok_least_period (T : Tx K mg) : FnOk P w K mg base CX0 1 T.f_least_period T.d_least_period ["turn"] (liftX bLeast) := by
  refine T.F_least_period.ok sc_least_period (fun vs H Q E h => ?_) (fun cdv A outer s H vs Q E hr h => ?_)
  · obtain ⟨kn, _, _, a, t, rfl, _⟩ := h
    rfl
  · obtain ⟨kn, ex, nt, a, t, rfl, ha, l1, l2, h⟩ := h
    refine ⟨_, (pss_cons (ps_set (i := 1) sc_least_period.nd rfl (by first | exact Or.inl rfl | exact Or.inr rfl) (pe_callB c_len (by rfl) T.b_len PySem.boot_len (pa_cons (pv 0) pa_nil)))
       (pss_cons (ps_for PassesOwn.never rfl (pi_range2 (by rfl) T.b_range (pa_cons pe_int (pa_cons (pv 1) pa_nil))) (pg_name (i := 2) sc_least_period.nd rfl (by first | exact Or.inl rfl | exact Or.inr rfl))
       (pss_one (ps_if (PW.pt (pw_and (pt_cmpR op_eq (pe_op op_mod (pv 1) (pv 2)) pe_int (nomark _)) (pw_and1 (pt_cmpR (show OpR _ _ (rEqD K) from op_eqD hr.units) (pe_op op_cat (pe_slice (show SlR _ (rSlL K) from sl_list) (pv 0) (po_some (pv 2)) po_none) (pe_slice (show SlR _ (rSlL K) from sl_list) (pv 0) po_none (po_some (pv 2)))) (pv 0) (nomark _)))))
       (pss_one (ps_ret (pv 2)))
       pss_nil)))
       (pss_one (ps_ret (pv 1))))), ?_⟩
    refine body_of (pure_start ex nt) ?_
    walk_at "wi"
    rw [List.length_map]
    refine s_forJ (i_rng2 ?_)
    walk_at "w"
    refine ⟨1, t.length, rfl, ⟨by decide, by decide, by omega, by omega⟩, ?_⟩
    have hm : ((t.length : Int) - 1).toNat = t.length - 1 := by omega
    rw [hm]
    refine ⟨_, (fun _ => True), fun j σ' k m => m = 0 ∧ (∃ y2, σ' = [some (.ref a), some (.int t.length), y2]) ∧ Ext kn k ∧ ∀ q, q ≤ j → isP t q = false, gives_rng, ⟨rfl, ⟨_, rfl⟩, ext_rf, fun q hq => ?_⟩, fun _ _ _ _ _ => trivial, ?_, ?_⟩
    · have : q = 0 := by omega
      subst this
      simp [isP]
    · rintro j x σ' k m hx ⟨rfl, ⟨y2, rfl⟩, ek, hp⟩
      rw [List.getElem?_map] at hx
      obtain ⟨n, hn, rfl⟩ := Option.map_eq_some_iff.1 hx
      have hj := List.getElem?_eq_some_iff.1 hn
      obtain ⟨hj1, hj2⟩ := hj
      rw [List.length_range] at hj1
      rw [List.getElem_range] at hj2
      subst hj2
      have e0 : (1 : Int) + ((j : Nat) : Int) = ((j + 1 : Nat) : Int) := by omega
      rw [e0]
      have hk := ek _ _ ha
      walk_at "wi"
      refine r_I (by omega) ?_
      walk_at "wi"
      rw [int_eq]
      refine ⟨fun hb => ?_, fun hb => ?_⟩
      · have hb := of_decide_eq_true hb
        have hd : t.length % (j + 1) = 0 := by omega
        walk_at "wi"
        refine r_slL hk fun a1 h1 => ?_
        rw [cut_lo, ← List.map_drop]
        have k1 := know (o := .lst (blV (t.drop (j + 1)))) h1 hk
        have q1 : (upd k a1 (.lst (blV (t.drop (j + 1))))) a1 = some (.lst (blV (t.drop (j + 1)))) := upd_same
        have x1 := ext_tr ek (ext_new (o := .lst (blV (t.drop (j + 1)))) h1)
        generalize upd k a1 (.lst (blV (t.drop (j + 1)))) = kA at k1 q1 x1 ⊢
        walk_at "wi"
        refine r_slL k1 fun a2 h2 => ?_
        rw [cut_hi, ← List.map_take]
        have k2 := know (o := .lst (blV (t.take (j + 1)))) h2 k1
        have q2 : (upd kA a2 (.lst (blV (t.take (j + 1))))) a2 = some (.lst (blV (t.take (j + 1)))) := upd_same
        have q1 := know (o := .lst (blV (t.take (j + 1)))) h2 q1
        have x2 := ext_tr x1 (ext_new (o := .lst (blV (t.take (j + 1)))) h2)
        generalize upd kA a2 (.lst (blV (t.take (j + 1)))) = kB at k2 q1 q2 x2 ⊢
        walk_at "wi"
        refine r_cat q1 q2 (by rw [List.length_map, List.length_map, List.length_drop, List.length_take]; omega) fun a3 h3 => ?_
        rw [← List.map_append]
        have k3 := know (o := .lst (blV (turned t (j + 1)))) h3 k2
        have q3 : (upd kB a3 (.lst (blV (turned t (j + 1))))) a3 = some (.lst (blV (turned t (j + 1)))) := upd_same
        have x3 := ext_tr x2 (ext_new (o := .lst (blV (turned t (j + 1)))) h3)
        show W _ _ (upd kB a3 (.lst (blV (turned t (j + 1))))) _ _
        generalize upd kB a3 (.lst (blV (turned t (j + 1)))) = kC at k3 q3 x3 ⊢
        walk_at "wi"
        refine r_eq_d (.lst (sql q3) (dp_bls _)) (.lst (sql k3) (dp_bls _)) (shaped_bls _) (shaped_bls _) ?_
        rw [eqv_blL]
        walk_at "wi"
        refine ⟨fun hb2 => ?_, fun hb2 => ?_⟩
        · have hb2 := of_decide_eq_true hb2
          have hl : leastP t = j + 1 := by
            have yes : isP t (j + 1) = true := by
              unfold isP
              rw [hb2]
              simp [hd]
            rcases leastP_cases t with ⟨_, f⟩ | ⟨l, q, f⟩
            · rw [f (j + 1) (by omega)] at yes; cases yes
            · rcases Nat.lt_trichotomy (leastP t) (j + 1) with z | z | z
              · rw [hp _ (by omega)] at q; cases q
              · exact z
              · rw [f _ z] at yes; cases yes
          have := h kC x3 0
          rw [hl] at this
          walk_at "wi"
          exact this
        · have hb2 := of_decide_eq_false hb2
          walk_at "wi"
          refine ⟨rfl, ⟨_, rfl⟩, x3, fun q hq => ?_⟩
          rcases Nat.lt_or_ge q (j + 1) with z | z
          · exact hp q (by omega)
          · have : q = j + 1 := by omega
            subst this
            unfold isP
            rw [decide_eq_false hb2]
            simp
      · have hb := of_decide_eq_false hb
        walk_at "wi"
        refine ⟨rfl, ⟨_, rfl⟩, ek, fun q hq => ?_⟩
        rcases Nat.lt_or_ge q (j + 1) with z | z
        · exact hp q (by omega)
        · have : q = j + 1 := by omega
          subst this
          unfold isP
          rw [decide_eq_false (show ¬ t.length % (j + 1) = 0 by omega)]
          simp
    · rintro σ' k m ⟨rfl, ⟨y2, rfl⟩, ek, hp⟩
      rw [List.length_map, List.length_range] at hp
      walk_at "wi"
      have e : leastP t = t.length := by
        rcases leastP_cases t with ⟨e, _⟩ | ⟨l, q, _⟩
        · exact e
        · rw [hp _ (by omega)] at q; cases q
      have := h k ek 0
      rw [e] at this
      exact this
end

end NN

namespace NN
open PySem PySem.Spec PyProof.Rows L2 LamX AW ClX
open Tx1 Ln
namespace D
/-! ### the class -/
structure Least (t : List Bool) : Prop where
  pos : 1 ≤ t.length
  le : t.length ≤ 7
  per : leastP t = t.length
abbrev dayF (s : Nat) (q : Addr) : List (Str × V) := [("_period", .int s), ("_rests", .ref q)]
structure DayAt (C : Addr) (kn : Hp) (a : Addr) (t : List Bool) : Prop where
  at_ : ∃ dx q, kn a = some (.ins C dx (dayF t.length q)) ∧ kn q = some (.tup (natV (idx t)))
  least : Least t
theorem DayAt.ext {C : Addr} {kn kn' : Hp} {a : Addr} {t : List Bool} (x : Ext kn kn') (h : DayAt C kn a t) : DayAt C kn' a t := by
  obtain ⟨⟨dx, q, a1, a2⟩, f⟩ := h
  exact ⟨⟨dx, q, x _ _ a1, x _ _ a2⟩, f⟩
/-- known but at a -/
def KE (a : Addr) (kn k : Hp) : Prop := ∀ x o, x ≠ a → kn x = some o → k x = some o
theorem KE.rf {a : Addr} {kn : Hp} : KE a kn kn := fun _ _ _ h => h
theorem KE.ext {a : Addr} {kn k k' : Hp} (h : KE a kn k) (e : Ext k k') : KE a kn k' := fun x o n z => e _ _ (h x o n z)
theorem KE.put {a : Addr} {kn k : Hp} {o : HO} (h : KE a kn k) : KE a kn (upd k a o) := fun x u n z => by
  rw [upd_ne n]
  exact h x u n z
abbrev NewD (C : Addr) (kn : Hp) (t : List Bool) (Q : AK) : Prop := ∀ x k', Ext kn k' → kn x = none → DayAt C k' x t → Q (.ref x) k'
/-- the least turn that right arguments tell -/
def formT (p : Nat) (ys : List Nat) : List Bool := (maskOf p ys).take (leastP (maskOf p ys))
def GoodP (vp : V) (o : Option (List V)) (p : Nat) (ys : List Nat) : Prop := vp = .int p ∧ 1 ≤ p ∧ p ≤ 7 ∧ o = some (natV ys) ∧ ∀ y ∈ ys, y < p
/-- which argument is wrong -/
def BadP (vp : V) (o : Option (List V)) (part : Str) : Prop :=
  (part = "period" ∧ ¬ ∃ p : Nat, vp = .int p ∧ 1 ≤ p ∧ p ≤ 7) ∨ (part = "rests" ∧ ∃ p : Nat, vp = .int p ∧ 1 ≤ p ∧ p ≤ 7 ∧ ¬ ∃ ys, o = some (natV ys) ∧ ∀ y ∈ ys, y < p)
/-- an error of class B with its field -/
def BadE (B : Addr) (kn : Hp) (f : Str) (y : V) (E : AXK) : Prop := ∀ d k', Ext kn k' → kn d = none → k' d = some (.xd [(f, y)]) → E (.ref B) (some d) k'
theorem BadE.ext {B : Addr} {kn kn' : Hp} {f : Str} {y : V} {E : AXK} (e : Ext kn kn') (h : BadE B kn f y E) : BadE B kn' f y E := fun d k' x n u => h d k' (ext_tr e x) (free_ext e n) u
theorem form_least {p : Nat} {ys : List Nat} (h1 : 1 ≤ p) (h2 : p ≤ 7) : Least (formT p ys) := by
  have hl := mask_len p ys
  have hp := leastP_pos (t := maskOf p ys) (by omega)
  have hle := leastP_le (maskOf p ys)
  have e : (formT p ys).length = leastP (maskOf p ys) := by
    unfold formT
    rw [List.length_take, Nat.min_eq_left hle]
  refine ⟨by omega, by omega, ?_⟩
  rw [e]
  exact leastP_take (by omega)
theorem form_len (p : Nat) (ys : List Nat) : (formT p ys).length = leastP (maskOf p ys) := by
  unfold formT
  rw [List.length_take, Nat.min_eq_left (leastP_le _)]
theorem again {t : List Bool} (h : Least t) : formT t.length (idx t) = t := by
  unfold formT
  rw [mask_idx, h.per, List.take_length]
def bInit (K : PySem.W.Frag) (C B : Addr) : List V → Hp → AK → AXK → Prop := fun vs kn Q E => ∃ (a dx : Addr) (vp vr : V) (o : Option (List V)), vs = [.ref a, vp, vr] ∧ kn a = some (.ins C dx []) ∧ RestsV K kn vr o ∧ AnyN K kn vp ∧
  (∀ p ys, GoodP vp o p ys → ∀ k', KE a kn k' → (∃ q, k' a = some (.ins C dx (dayF (formT p ys).length q)) ∧ k' q = some (.tup (natV (idx (formT p ys))))) → Q .non k') ∧
  (∀ part, BadP vp o part → BadE B kn "part" (.str part) E)
theorem mo_init {K : PySem.W.Frag} {C B : Addr} : MonoX (bInit K C B) := by
  rintro vs kn Q R E F h1 h2 ⟨a, dx, vp, vr, xs, e1, e2, e3, e4, h, g⟩
  exact ⟨a, dx, vp, vr, xs, e1, e2, e3, e4, fun p ys z k y u => h1 _ _ (h p ys z k y u), fun p z d k y n u => h2 _ _ _ (g p z d k y n u)⟩
theorem nums_any {p : Nat} {K : PySem.W.Frag} {kn : Hp} : ∀ {xs : List V}, (∀ x ∈ xs, AnyN K kn x) → xs.all (okV 0 ((p : Int) - 1)) = true → ∃ ys : List Nat, xs = natV ys ∧ ∀ y ∈ ys, y < p
  | [], _, _ => ⟨[], rfl, fun y hy => (by cases hy)⟩
  | x :: xs, hn, h => by
    rw [List.all_cons, Bool.and_eq_true] at h
    obtain ⟨ys, e, hy⟩ := nums_any (fun z hz => hn z (.tail _ hz)) h.2
    rcases hn x (.head _) with ⟨i, rfl⟩ | od
    · have h1 := h.1
      simp only [okV, Bool.and_eq_true, decide_eq_true_eq] at h1
      refine ⟨i.toNat :: ys, ?_, fun y hy2 => ?_⟩
      · rw [e]
        show _ = V.int ((i.toNat : Nat) : Int) :: natV ys
        rw [Int.toNat_of_nonneg h1.1]
      · rcases List.mem_cons.1 hy2 with rfl | h3
        · omega
        · exact hy y h3
    · have := h.1
      rw [okV_odd od] at this
      cases this
theorem all_of {p : Nat} {ys : List Nat} (h : ∀ y ∈ ys, y < p) : (natV ys).all (okV 0 ((p : Int) - 1)) = true := by
  rw [List.all_map, List.all_eq_true]
  intro y hy
  have := h y hy
  show okV 0 ((p : Int) - 1) (.int (y : Int)) = true
  simp only [okV, Bool.and_eq_true, decide_eq_true_eq]
  omega
theorem rng_filter {m : Nat} {p : V → Bool} {P : Nat → Bool} (h : ∀ i, i < m → p (.int (0 + ((i : Nat) : Int))) = P i) : ((List.range m).map fun (i : Nat) => V.int (0 + (i : Int))).filter p = natV ((List.range m).filter P) := by
  rw [List.filter_map]
  unfold natV
  have e : (fun (i : Nat) => V.int (0 + (i : Int))) = fun (i : Nat) => V.int (i : Int) := by funext i; rw [Int.zero_add]
  rw [e]
  congr 1
  apply List.filter_congr
  intro i hi
  have := h i (List.mem_range.1 hi)
  rw [Int.zero_add] at this
  exact this
theorem idx_take {t : List Bool} {b : Nat} (h : b ≤ t.length) : (List.range b).filter (ix t) = idx (t.take b) := by
  unfold idx
  rw [List.length_take, Nat.min_eq_left h]
  apply List.filter_congr
  intro i hi
  exact (ix_take (List.mem_range.1 hi)).symm
theorem at_bl {t : List Bool} {i : Nat} (h : i < t.length) : atI (blV t) ((i : Nat) : Int) = some (.bl (ix t i)) := by
  refine atI_nat ?_
  rw [List.getElem?_map, List.getElem?_eq_getElem h, ix_lt h]
  rfl
def pIx (t : List Bool) : V → Bool
  | .int i => ix t i.toNat
  | _ => false
section
variable {c : Cw} {kn : Hp} {n : Nat} {σ : L2.St} {Q : V → Hp → Nat → Prop} {K : PySem.W.Frag}
/-- [n for n in range(b) if t[n]] -/
theorem w_lcIx {te : TE} {m j : Nat} {q : Addr} {b : Nat} {t : List Bool} (hte : ∀ R : V → Hp → Nat → Prop, R (.int b) kn n → W c (te σ) kn n R) (hj : ∀ v : V, ((wipe σ [m]).set m (some v))[j]? = some (some (.ref q))) (h9 : ∀ v : V, ((wipe σ [m]).set m (some v))[m]? = some (some v)) (hw : ∀ v : V, wipe ((wipe σ [m]).set m (some v)) [m] = wipe σ [m])
    (ht : kn q = some (.lst (blV t))) (hb : b ≤ t.length) (hs : b ≤ 1000) (hq : ∀ D, kn D = none → Q (.ref D) (upd kn D (.lst (natV (idx (t.take b))))) n) :
    W c (tLc (iRng1 (tCons te tNil)) (gName m) (tB (tOp (rIxL K) (tVar j) (tVar m))) (tVar m) [m] σ) kn n Q := by
  refine w_lcP (i_rng1 (w_cons (hte _ (w_nil ⟨b, rfl, by omega, by omega, ?_⟩))))
  rw [Int.toNat_natCast]
  refine ⟨_, (fun _ => True), (fun v => v), pIx t, gives_rng, by rw [List.length_map, List.length_range]; omega, fun _ _ => trivial, fun x hx k ek => ?_, fun D hD => ?_⟩
  · obtain ⟨i, hm, rfl⟩ := List.mem_map.1 hx
    have hm := List.mem_range.1 hm
    rw [Int.zero_add]
    refine g_name ⟨rfl, rfl, hw _, ?_⟩
    refine w_B (w_op (w_var (hj _) (w_var (h9 _) (r_ixL (ek _ _ ht) (at_bl (by omega)) ⟨_, rfl, rfl, rfl, rfl, fun _ => w_var (h9 _) ⟨rfl, rfl, rfl⟩⟩))))
  · rw [rng_filter (P := ix t) (fun i hi => by rw [Int.zero_add]; rfl), List.map_id', idx_take hb]
    exact hq D hD
end
section
variable {P : Program} {w : World} {K : PySem.W.Frag} {mg : Str → Option Value} {base : Heap}
theorem ok_BadDays___init__ (T : Tx K mg) : FnOk P w K mg base CX0 1 T.f_BadDays___init__ T.d_BadDays___init__ ["self", "part"] (spX1 K "part") := by
  refine T.F_BadDays___init__.ok sc_BadDays___init__ (fun vs H Q E h => ?_) (fun cdv A outer s H vs Q E hr h => ?_)
  · obtain ⟨a, C, y, rfl, _⟩ := h
    rfl
  · obtain ⟨a, C, y, rfl, oc, hf, ha, h⟩ := h
    refine ⟨_, (pss_one (ps_ost (pv 0) (pv 1))), ?_⟩
    refine ⟨_, rfl, _, rfl, a, C, rfl, oc, hf, .inl ⟨ha, h⟩⟩
theorem ok_TooMany___init__ (T : Tx K mg) : FnOk P w K mg base CX0 1 T.f_TooMany___init__ T.d_TooMany___init__ ["self", "what", "most"] (spX2 K "what" "most") := by
  refine T.F_TooMany___init__.ok sc_TooMany___init__ (fun vs H Q E h => ?_) (fun cdv A outer s H vs Q E hr h => ?_)
  · obtain ⟨a, C, y, z, rfl, _⟩ := h
    rfl
  · obtain ⟨a, C, y, z, rfl, oc, hf, hg, ha, h⟩ := h
    refine ⟨_, (pss_cons (ps_ost (pv 0) (pv 1))
       (pss_one (ps_ost (pv 0) (pv 2)))), ?_⟩
    refine ⟨_, rfl, _, rfl, a, C, rfl, oc, hf, .inl ⟨ha, fun dx hd hda => ?_⟩⟩
    refine ⟨_, rfl, _, rfl, a, C, rfl, oc, hg, .inr ⟨dx, [("what", y)], upd_same, ?_, (show 1 ≤ 900 by decide), h dx hd hda⟩⟩
    rw [upd_ne hda, upd_same]
theorem ok_Days___init__ (T : Tx K mg) : FnOk P w K mg base (L2.CX P w) 5 T.f_Days___init__ T.d_Days___init__ ["self", "period", "rests"] (liftX (bInit K T.c_Days T.c_BadDays)) := by
  refine T.F_Days___init__.okX sc_Days___init__ (fun vs H Q E h => ?_) (fun cdv A outer s H vs Q E hr h => ?_)
  · obtain ⟨kn, _, _, a, dx, vp, vr, xs, rfl, _⟩ := h
    rfl
  · obtain ⟨kn, ex, nt, a, dx, vp, vr, o, rfl, ha, sv, np, h, g⟩ := h
    refine ⟨_, (pss_cons (ps_if (pt_not (pt_val (pe_call (ok_is_from T) (hr.mono (by decide)) (by rfl) T.g_is_from T.F_is_from.kp T.bd_is_from .nil pass0 (pa_cons (pv 1) (pa_cons pe_int (pa_cons (pe_cval (pe_glob (v := .ref T.c_Days) (by rfl) T.g_Days rfl)) pa_nil))))))
       (pss_one (ps_raise rfl (takes_of rfl rfl rfl rfl) (pmk_oex T.x_BadDays T.fi_BadDays___init__ T.ti_BadDays (ok_BadDays___init__ T) (hr.mono (by decide)) T.bd_BadDays___init__ .nil pass0 (by rfl) T.g_BadDays (pa_cons pe_str pa_nil))))
       pss_nil)
       (pss_cons (ps_if (pt_not (pt_val (pe_call (ok_are_from T) (hr.mono (by decide)) (by rfl) T.g_are_from T.F_are_from.kp T.bd_are_from .nil pass0 (pa_cons (pv 2) (pa_cons pe_int (pa_cons (pe_op op_sub (pv 1) pe_int) pa_nil))))))
       (pss_one (ps_raise rfl (takes_of rfl rfl rfl rfl) (pmk_oex T.x_BadDays T.fi_BadDays___init__ T.ti_BadDays (ok_BadDays___init__ T) (hr.mono (by decide)) T.bd_BadDays___init__ .nil pass0 (by rfl) T.g_BadDays (pa_cons pe_str pa_nil))))
       pss_nil)
       (pss_cons (ps_set (i := 3) sc_Days___init__.nd rfl (by first | exact Or.inl rfl | exact Or.inr rfl) (pe_call (ok_marked T) (hr.mono (by decide)) (by rfl) T.g_marked T.F_marked.kp T.bd_marked .nil pass0 (pa_cons (pv 1) (pa_cons (pv 2) pa_nil))))
       (pss_cons (ps_fld (pv 0) (pe_call (ok_least_period T) (hr.mono (by decide)) (by rfl) T.g_least_period T.F_least_period.kp T.bd_least_period .nil pass0 (pa_cons (pv 3) pa_nil)) rfl)
       (pss_one (ps_fld (pv 0) (pe_callTy c_tupQ (by rfl) T.b_tuple (by decide +kernel) (pa_cons (pe_lc (own := [("n", 4)]) (g := gName 4) (by rfl) sc_Days___init__.nd (pi_range1 (by rfl) T.b_range (pa_cons (pe_fld (pv 0) rfl) pa_nil)) (blkOk_by (own := [("n", 4)]) (N := ["self", "period", "rests", "turn", "n"]) (sc := defScope s_Days___init__) (by decide +kernel)) (fun _ _ _ _ _ => pg_name (i := 4) sc_Days___init__.nd rfl (Or.inl rfl)) (fun _ _ _ _ _ => (pts_one (pt_val (pe_ix (show IxR _ (rIxL K) from ix_list) (pv 3) (pv 4) (fun _ _ => rfl))))) (fun _ _ _ _ _ => (pv 4))) pa_nil)) rfl)))))), ?_⟩
    refine body_of (pure_start ex nt) ?_
    have cL := T.cl_Days
    obtain ⟨mu, hmu⟩ := T.cv_Days_MOST
    walk_at "wi"
    refine w_call mo_from err_no ?_
    walk_at "w"
    refine ⟨_, _, _, _, rfl, T.cr_Days, hmu, ?_⟩
    walk_at "w"
    rcases np with ⟨i, rfl⟩ | od
    · refine ⟨_, _, _, rfl, .inl ⟨_, rfl, ?_⟩⟩
      walk_at "wi"
      refine ⟨fun hb => ?_, fun hb => ?_⟩
      · have nb : BadP (.int i) o "period" := by
          refine .inl ⟨rfl, ?_⟩
          rintro ⟨p, e, p1, p2⟩
          have e : i = p := V.int.inj e
          rw [decide_eq_true (show (1 : Int) ≤ i by omega), decide_eq_true (show i ≤ 7 by omega)] at hb
          cases hb
        walk_at "wi"
        refine s_raise1 T.x_BadDays T.nx_BadDays_part err_body ?_
        walk_at "wi"
        exact fun d hd => g _ nb d _ (ext_new hd) hd upd_same 0
      · have hb : 1 ≤ i ∧ i ≤ 7 := by
          have hb : (decide (1 ≤ i) && decide (i ≤ 7)) = true := by simpa using hb
          rw [Bool.and_eq_true, decide_eq_true_eq, decide_eq_true_eq] at hb
          exact hb
        obtain ⟨p, rfl⟩ : ∃ p : Nat, i = p := ⟨i.toNat, by omega⟩
        walk_at "wi"
        refine w_call mo_are err_no ?_
        walk_at "w"
        refine ⟨_, o, _, _, rfl, sv, fun k1 e1 => ?_⟩
        walk_at "wi"
        refine ⟨fun hb2 => ?_, fun hb2 => ?_⟩
        · have nb : BadP (.int (p : Int)) o "rests" := by
            refine .inr ⟨rfl, p, rfl, by omega, by omega, ?_⟩
            rintro ⟨ys, rfl, hy⟩
            have hb2 : (!(natV ys).all (okV 0 ((p : Int) - 1))) = true := hb2
            rw [all_of hy] at hb2
            cases hb2
          walk_at "wi"
          refine s_raise1 T.x_BadDays T.nx_BadDays_part err_body ?_
          walk_at "wi"
          exact fun d hd => g _ nb d _ (ext_tr e1 (ext_new hd)) (free_ext e1 hd) upd_same 0
        · obtain ⟨xs, rfl⟩ : ∃ xs, o = some xs := by
            cases o with
            | none => cases hb2
            | some xs => exact ⟨xs, rfl⟩
          obtain ⟨sv, lx, nx⟩ := sv
          obtain ⟨a2, ea2, _⟩ := id sv
          subst ea2
          have hb2 : xs.all (okV 0 ((p : Int) - 1)) = true := by
            have hb2 : (!xs.all (okV 0 ((p : Int) - 1))) = false := hb2
            simpa using hb2
          obtain ⟨ys, rfl, hy⟩ := nums_any nx hb2
          have h := h p ys ⟨rfl, by omega, by omega, rfl, hy⟩
          rw [List.length_map] at lx
          have hturn : (maskOf p ys).length = p := mask_len _ _
          have hpos := leastP_pos (t := maskOf p ys) (by omega)
          have hle := leastP_le (maskOf p ys)
          walk_at "wi"
          refine w_call mo_marked err_no ?_
          walk_at "w"
          refine ⟨p, _, ys, rfl, SeqV.ext e1 sv, lx, (by omega), hy, fun qt k3 e3 f3 hn3 => ?_⟩
          walk_at "wi"
          refine w_call mo_least err_no ?_
          walk_at "w"
          refine ⟨qt, _, rfl, hn3, (by rw [hturn]; omega), (by rw [hturn]; omega), fun k4 e4 => ?_⟩
          have hte : qt ≠ a := fun z => by have := e1 _ _ ha; rw [← z, f3] at this; cases this
          have K4 : KE a kn k4 := KE.rf.ext (ext_tr e1 (ext_tr e3 e4))
          have A4 := e4 _ _ (e3 _ _ (e1 _ _ ha))
          have T4 := e4 _ _ hn3
          clear e1 e3 e4 f3 hn3
          unfold formT at h
          obtain ⟨sP, hsP⟩ : ∃ sP, sP = leastP (maskOf p ys) := ⟨_, rfl⟩
          obtain ⟨turn, hT⟩ : ∃ turn, turn = maskOf p ys := ⟨_, rfl⟩
          rw [← hT] at hturn hpos hle h hsP T4 ⊢
          rw [← hsP] at hpos hle h ⊢
          clear hsP hT
          walk_at "wi"
          refine ⟨_, _, _, _, rfl, A4, cL, T.na_Days__period, by decide, ?_⟩
          have A6 : (upd k4 a (.ins T.c_Days dx (putF "_period" (.int sP) []))) a = some (.ins T.c_Days dx [("_period", .int sP)]) := upd_same
          have K6 := K4.put (o := .ins T.c_Days dx (putF "_period" (.int sP) []))
          have T6 : (upd k4 a (.ins T.c_Days dx (putF "_period" (.int sP) []))) qt = _ := (upd_ne hte).trans T4
          generalize upd k4 a (.ins T.c_Days dx (putF "_period" (.int sP) [])) = k6 at A6 K6 T6 ⊢
          clear A4 K4 T4
          refine s_fld ?_
          refine w_cb (w_cons (w_lcIx (q := qt) (t := turn) (b := sP) (fun R hR => w_fld (w_var rfl ⟨_, _, _, _, _, rfl, A6, cL, T.na_Days__period, rfl, hR⟩)) (fun _ => rfl) (fun _ => rfl) (fun _ => rfl) T6 hle (by omega) fun D hD => w_nil (r_tupL upd_same fun l hl => ?_)))
          walk_at "w"
          have d1 : l ≠ a := fun z => by rw [z, know hD A6] at hl; cases hl
          refine ⟨_, _, _, _, rfl, know hl (know hD A6), cL, T.na_Days__rests, (show 1 < 1000 by decide), ?_⟩
          walk_at "wi"
          refine fun H' g' => h _ ((K6.ext (ext_tr (ext_new hD) (ext_new hl))).put) ⟨l, ?_, (upd_ne d1).trans upd_same⟩ 0 H' g'
          rw [upd_same, List.length_take, Nat.min_eq_left hle]
          rfl
    · refine ⟨_, _, _, rfl, .inr ⟨od, ?_⟩⟩
      have nb : BadP vp o "period" := by
        refine .inl ⟨rfl, ?_⟩
        rintro ⟨p, rfl, p1, p2⟩
        have := okV_odd (lo := 1) (hi := 7) od
        simp only [okV, Bool.and_eq_false_iff, decide_eq_false_iff_not] at this
        omega
      walk_at "wi"
      refine s_raise1 T.x_BadDays T.nx_BadDays_part err_body ?_
      walk_at "wi"
      exact fun d hd => g _ nb d _ (ext_new hd) hd upd_same 0
/-- Days(..): what it makes, what it refuses -/
def MakeD (K : PySem.W.Frag) (C B : Addr) (vp vr : V) (kn1 : Hp) (Q : AK) (E : AXK) : Prop := ∃ o, RestsV K kn1 vr o ∧ AnyN K kn1 vp ∧ (∀ p ys, GoodP vp o p ys → NewD C kn1 (formT p ys) Q) ∧ (∀ part, BadP vp o part → BadE B kn1 "part" (.str part) E)
theorem make_init {K : PySem.W.Frag} {C B : Addr} {vp vr : V} {kn1 : Hp} {Q : AK} {E : AXK} (hv : MakeD K C B vp vr kn1 Q E) {x dx : Addr} (hx : kn1 x = none) (hdx : kn1 dx = none) (hne : dx ≠ x) :
    bInit K C B [.ref x, vp, vr] (upd (upd kn1 dx (.own x)) x (.ins C dx [])) (fun v k => v = .non ∧ Q (.ref x) k) E := by
  obtain ⟨o, sv, np, h1, h2⟩ := hv
  have hx2 : upd kn1 dx (.own x) x = none := by rw [upd_ne (Ne.symm hne)]; exact hx
  have ex : Ext kn1 (upd (upd kn1 dx (.own x)) x (.ins C dx [])) := ext_tr (ext_new hdx) (ext_new hx2)
  have keep : ∀ k', KE x (upd (upd kn1 dx (.own x)) x (.ins C dx [])) k' → Ext kn1 k' := fun k' ke y o hy => ke y o (fun z => by rw [z, hx] at hy; cases hy) (ex y o hy)
  refine ⟨x, dx, vp, vr, o, rfl, upd_same, rests_ext ex sv, any_ext ex np, fun p ys gp k' ke hk => ⟨rfl, h1 p ys gp x k' (keep k' ke) hx ?_⟩, fun part nb => (h2 part nb).ext ex⟩
  obtain ⟨q, z1, z2⟩ := hk
  exact ⟨⟨dx, q, z1, z2⟩, form_least gp.2.1 gp.2.2.1⟩
theorem w_days {c : Cw} {kn : Hp} {n : Nat} {σ : L2.St} {Q : V → Hp → Nat → Prop} {E : XK} {EA : EAK} {C B : Addr} {t : TA} (hE : ErrOk c EA E)
    (h : W c (t σ) kn n fun vs kn1 n1 => ∃ vp vr, vs = [vp, vr] ∧ MakeD K C B vp vr kn1 (fun v k => Q v k n1) (fun cls d k => EA cls d k n1)) : W c (tMake C (liftX (bInit K C B)) [] E t σ) kn n Q := by
  refine w_make mo_init hE (h.mono fun vs kn1 n1 hv => ?_)
  obtain ⟨vp, vr, rfl, hv⟩ := hv
  intro x dx hx hdx hne
  exact make_init hv hx hdx hne
end
end D

end NN

namespace NN
open PySem PySem.Spec PyProof.Rows L2 LamX AW ClX
open Tx1 Ln
/-! ### compared, written -/
theorem dp_nats {K : PySem.W.Frag} {H : Hp} : ∀ xs : List Nat, DpAll K H (natV xs) (xs.map fun (n : Nat) => PyData.int n)
  | [] => .nil
  | n :: r => .cons (.int n) (dp_nats r)
theorem lay_nats : ∀ xs : List Nat, PyData.canLayAll0 (xs.map fun (n : Nat) => PyData.int n) = true
  | [] => by simp [PyData.canLayAll0]
  | n :: r => by simp only [List.map_cons, PyData.canLayAll0, PyData.canLay0]; rw [lay_nats r]; rfl
theorem deep_nats : ∀ xs : List Nat, PyData.depthAll (xs.map fun (n : Nat) => PyData.int n) = 0
  | [] => by simp [PyData.depthAll]
  | n :: r => by simp only [List.map_cons, PyData.depthAll, PyData.depth]; rw [deep_nats r]; rfl
theorem shaped_natT (xs : List Nat) : SeqAt.shaped (.tuple (xs.map fun (n : Nat) => PyData.int n)) = true := by
  unfold SeqAt.shaped
  rw [show PyData.canLay0 (.tuple (xs.map fun (n : Nat) => PyData.int n)) = true by simp only [PyData.canLay0]; exact lay_nats xs, show PyData.depth (.tuple (xs.map fun (n : Nat) => PyData.int n)) = 1 by simp only [PyData.depth]; rw [deep_nats xs]]
  rfl
theorem shaped_natL (xs : List Nat) : SeqAt.shaped (.list (xs.map fun (n : Nat) => PyData.int n)) = true := by
  unfold SeqAt.shaped
  rw [show PyData.canLay0 (.list (xs.map fun (n : Nat) => PyData.int n)) = true by simp only [PyData.canLay0]; exact lay_nats xs, show PyData.depth (.list (xs.map fun (n : Nat) => PyData.int n)) = 1 by simp only [PyData.depth]; rw [deep_nats xs]]
  rfl
theorem eqv_nats : ∀ a b : List Nat, PyData.eqvAll (a.map fun (n : Nat) => PyData.int n) (b.map fun (n : Nat) => PyData.int n) = decide (a = b)
  | [], [] => by simp [PyData.eqvAll]
  | [], _ :: _ => by simp [PyData.eqvAll]
  | _ :: _, [] => by simp [PyData.eqvAll]
  | x :: a, y :: b => by
    simp only [List.map_cons, PyData.eqvAll, PyData.eqv, eqv_nats a b]
    rw [Bool.eq_iff_iff]
    simp
    omega
theorem eqv_natT (a b : List Nat) : PyData.eqv (.tuple (a.map fun (n : Nat) => PyData.int n)) (.tuple (b.map fun (n : Nat) => PyData.int n)) = decide (a = b) := by
  simp only [PyData.eqv]
  exact eqv_nats a b
theorem eqv_natL (xs : List Nat) : PyData.eqv (.list (xs.map fun (n : Nat) => PyData.int n)) (.list []) = xs.isEmpty := by
  cases xs <;> simp [PyData.eqv, PyData.eqvAll]
theorem log_small {i : Int} (h1 : -(10 ^ 13) < i) (h2 : i < 10 ^ 13) : i.natAbs.log2 < 1920 := by
  by_cases z : i.natAbs = 0
  · rw [z]; decide
  · have a : i.natAbs < 2 ^ 44 := by omega
    exact Nat.lt_trans ((Nat.log2_lt z).mpr a) (by decide)
theorem len_small {i : Int} (h1 : -(10 ^ 13) < i) (h2 : i < 10 ^ 13) : (Str.ofString (toString i)).length ≤ 14 := by
  rw [PySem.ofString_length]
  exact int_text_length_le10 (k := 13) (by decide) (by omega)
theorem idx_len (t : List Bool) : (idx t).length ≤ t.length := by
  unfold idx
  exact Nat.le_trans (List.length_filter_le _ _) (by rw [List.length_range]; exact Nat.le_refl _)
theorem inV_nat (x : Nat) : ∀ ws : List Nat, inV (.int (x : Int)) (natV ws) = decide (x ∈ ws)
  | [] => rfl
  | w :: ws => by
    have ih := inV_nat x ws
    unfold inV natV at ih ⊢
    rw [List.map_cons, List.any_cons, ih]
    show ((w : Int) == (x : Int) || decide (x ∈ ws)) = _
    by_cases e : w = x
    · subst e
      simp
    · have e2 : ¬ x = w := fun z => e z.symm
      rw [beq_eq_false_iff_ne.2 (show ¬ (w : Int) = (x : Int) by omega), Bool.false_or]
      exact decide_eq_decide.2 ⟨fun h => .tail _ h, fun h => (List.mem_cons.1 h).resolve_left e2⟩
theorem flat_nats (ws : List Nat) : (natV ws).all flatV = true := by
  unfold natV
  rw [List.all_map]
  exact List.all_eq_true.2 fun _ _ => rfl
namespace D
def bEq (K : PySem.W.Frag) (C : Addr) : List V → Hp → AK → AXK → Prop := fun vs kn Q _ => ∃ a y t, vs = [.ref a, y] ∧ DayAt C kn a t ∧ ((∃ b t', y = .ref b ∧ DayAt C kn b t' ∧ Q (.bl (decide (t = t'))) kn) ∨ ∃ ty, TyX K kn y ty ∧ PySem.W.kitOne K ty (.ref C) = some false ∧ Q (.bl false) kn)
theorem mo_eq {K : PySem.W.Frag} {C : Addr} : MonoX (bEq K C) := by
  rintro vs kn Q R E F h1 h2 ⟨a, y, t, e, x, ⟨b, t', z, u, h⟩ | ⟨ty, z, u, h⟩⟩
  · exact ⟨a, y, t, e, x, .inl ⟨b, t', z, u, h1 _ _ h⟩⟩
  · exact ⟨a, y, t, e, x, .inr ⟨ty, z, u, h1 _ _ h⟩⟩def inD (t : List Bool) (i : Int) : Bool := ix t (i % ((t.length : Nat) : Int)).toNat
def bPer (C : Addr) : List V → Hp → AK → AXK → Prop := fun vs kn Q _ => ∃ a t, vs = [.ref a] ∧ DayAt C kn a t ∧ Q (.int t.length) kn
theorem mo_per {C : Addr} : MonoX (bPer C) := by
  rintro vs kn Q R E F h1 h2 ⟨a, t, x, y, h⟩
  exact ⟨a, t, x, y, h1 _ _ h⟩
def bHas (K : PySem.W.Frag) (C : Addr) : List V → Hp → AK → AXK → Prop := fun vs kn Q _ => ∃ a x t, vs = [.ref a, x] ∧ DayAt C kn a t ∧ ((∃ i, x = .int i ∧ Q (.bl (inD t i)) kn) ∨ (Odd K kn x ∧ Q (.bl false) kn))
theorem mo_has {K : PySem.W.Frag} {C : Addr} : MonoX (bHas K C) := by
  rintro vs kn Q R E F h1 h2 ⟨a, x, t, e, y, ⟨i, z, h⟩ | ⟨z, h⟩⟩
  · exact ⟨a, x, t, e, y, .inl ⟨i, z, h1 _ _ h⟩⟩
  · exact ⟨a, x, t, e, y, .inr ⟨z, h1 _ _ h⟩⟩
def IsNext (p : Int → Bool) (d : Int) (n : Nat) (v : V) : Prop := (∃ j : Nat, j < n ∧ (∀ l : Nat, l < j → p (d + l) = false) ∧ p (d + j) = true ∧ v = .int (d + j)) ∨ ((∀ l : Nat, l < n → p (d + l) = false) ∧ v = .non)
def bFoll (C : Addr) : List V → Hp → AK → AXK → Prop := fun vs kn Q _ => ∃ a i t, vs = [.ref a, .int i] ∧ DayAt C kn a t ∧ ∀ v, IsNext (inD t) i t.length v → Q v kn
theorem mo_foll {C : Addr} : MonoX (bFoll C) := by
  rintro vs kn Q R E F h1 h2 ⟨a, i, t, b, c, h⟩
  exact ⟨a, i, t, b, c, fun v z => h1 _ _ (h v z)⟩
section
variable {P : Program} {w : World} {K : PySem.W.Frag} {mg : Str → Option Value} {base : Heap}
theorem ok_Days___eq__ (T : Tx K mg) : FnOk P w K mg base CX0 1 T.f_Days___eq__ T.d_Days___eq__ ["self", "other"] (liftX (bEq K T.c_Days)) := by
  refine T.F_Days___eq__.ok sc_Days___eq__ (fun vs H Q E h => ?_) (fun cdv A outer s H vs Q E hr h => ?_)
  · obtain ⟨kn, _, _, a, y, t, rfl, _⟩ := h
    rfl
  · obtain ⟨kn, ex, nt, a, y, t, rfl, ⟨⟨dx, q, z1, z2⟩, F1⟩, h⟩ := h
    refine ⟨_, (pss_one (ps_ret (pe_and (pe_callB call_isi (by rfl) T.b_isinstance (by decide +kernel) (pa_cons (pv 1) (pa_cons (pe_glob (v := .ref T.c_Days) (by rfl) T.g_Days rfl) pa_nil))) (pe_and (pe_cmpR op_eq (pe_fld (pv 0) rfl) (pe_fld (pv 1) rfl) (nomark _)) (pe_one (pe_cmpR (show OpR _ _ (rEqD K) from op_eqD hr.units) (pe_fld (pv 0) rfl) (pe_fld (pv 1) rfl) (nomark _))))))), ?_⟩
    refine body_of (pure_start ex nt) ?_
    have cL := T.cl_Days
    walk_at "wi"
    rcases h with ⟨b, t', rfl, ⟨⟨dx', q', y1, y2⟩, F2⟩, h⟩ | ⟨ty, hy, kt, h⟩
    · refine r_isi (.own _) (T.own_Days.ty y1) T.kit_Days ?_
      walk_at "wi"
      refine w_fld (w_var rfl ⟨_, _, _, _, _, rfl, z1, cL, T.na_Days__period, rfl, ?_⟩)
      refine w_fld (w_var rfl ⟨_, _, _, _, _, rfl, y1, cL, T.na_Days__period, rfl, ?_⟩)
      walk_at "wi"
      rw [int_eq]
      refine ⟨fun hb => ?_, fun hb => ?_⟩
      · have hb : t.length = t'.length := by have := of_decide_eq_true hb; omega
        walk_at "wi"
        refine w_fld (w_var rfl ⟨_, _, _, _, _, rfl, z1, cL, T.na_Days__rests, rfl, ?_⟩)
        refine w_fld (w_var rfl ⟨_, _, _, _, _, rfl, y1, cL, T.na_Days__rests, rfl, ?_⟩)
        walk_at "wi"
        refine r_eq_d (.tup (sqt z2) (dp_nats _)) (.tup (sqt y2) (dp_nats _)) (shaped_natT _) (shaped_natT _) ?_
        rw [eqv_natT]
        have e : decide (idx t = idx t') = decide (t = t') := decide_eq_decide.2 ⟨fun e => idx_inj hb e, fun e => by rw [e]⟩
        rw [e]
        exact h 0
      · have hb : ¬ t.length = t'.length := by have := of_decide_eq_false hb; omega
        have e : decide (t = t') = false := decide_eq_false fun z => hb (by rw [z])
        rw [e] at h
        exact h 0
    · refine r_isi (.own _) hy kt ?_
      walk_at "wi"
      exact h 0
theorem ok_Days_period (T : Tx K mg) : FnOk P w K mg base CX0 1 T.f_Days_period T.d_Days_period ["self"] (liftX (bPer T.c_Days)) := by
  refine T.F_Days_period.ok sc_Days_period (fun vs H Q E h => ?_) (fun cdv A outer s H vs Q E hr h => ?_)
  · obtain ⟨kn, _, _, a, t, rfl, _⟩ := h
    rfl
  · obtain ⟨kn, ex, nt, a, t, rfl, ⟨⟨dx, q, z1, z2⟩, F⟩, h⟩ := h
    refine ⟨_, (pss_one (ps_ret (pe_fld (pv 0) rfl))), ?_⟩
    refine body_of (pure_start ex nt) ?_
    walk_at "wi"
    refine w_fld (w_var rfl ⟨_, _, _, _, _, rfl, z1, T.cl_Days, T.na_Days__period, rfl, ?_⟩)
    exact h 0
theorem ok_Days___contains__ (T : Tx K mg) : FnOk P w K mg base CX0 2 T.f_Days___contains__ T.d_Days___contains__ ["self", "x"] (liftX (bHas K T.c_Days)) := by
  refine T.F_Days___contains__.ok sc_Days___contains__ (fun vs H Q E h => ?_) (fun cdv A outer s H vs Q E hr h => ?_)
  · obtain ⟨kn, _, _, a, x, t, rfl, _⟩ := h
    rfl
  · obtain ⟨kn, ex, nt, a, x, t, rfl, ⟨⟨dx, q, z1, z2⟩, F⟩, h⟩ := h
    refine ⟨_, (pss_one (ps_ret (pe_and (pe_call (ok_is_whole T) (hr.mono (by decide)) (by rfl) T.g_is_whole T.F_is_whole.kp T.bd_is_whole .nil pass0 (pa_cons (pv 1) pa_nil)) (pe_one (pe_cmpR (show OpR _ _ (rInQ K false) from c_inQ) (pe_op op_mod (pv 1) (pe_fld (pv 0) rfl)) (pe_fld (pv 0) rfl) (by rfl)))))), ?_⟩
    refine body_of (pure_start ex nt) ?_
    have cL := T.cl_Days
    have tp := F.pos
    walk_at "wi"
    refine w_call mo_whole err_no ?_
    walk_at "w"
    refine ⟨_, rfl, ?_⟩
    rcases h with ⟨i, rfl, h⟩ | ⟨od, h⟩
    · refine .inl ⟨i, rfl, ?_⟩
      walk_at "wi"
      refine w_fld (w_var rfl ⟨_, _, _, _, _, rfl, z1, cL, T.na_Days__period, rfl, ?_⟩)
      refine r_I (by omega) ?_
      walk_at "wi"
      refine w_fld (w_var rfl ⟨_, _, _, _, _, rfl, z1, cL, T.na_Days__rests, rfl, ?_⟩)
      obtain ⟨m, hm⟩ : ∃ m : Nat, i % ((t.length : Nat) : Int) = m := ⟨(i % ((t.length : Nat) : Int)).toNat, by have := Int.emod_nonneg i (show ((t.length : Nat) : Int) ≠ 0 by omega); omega⟩
      have hm2 : m < t.length := by have := Int.emod_lt_of_pos i (show (0 : Int) < ((t.length : Nat) : Int) by omega); omega
      unfold inD at h
      rw [hm] at h ⊢
      rw [Int.toNat_natCast] at h
      refine r_inQ (.inr z2) rfl (flat_nats _) ?_
      rw [inV_nat]
      have e : decide (m ∈ idx t) = ix t m := by
        rw [Bool.eq_iff_iff, decide_eq_true_eq, mem_idx]
        exact ⟨fun z => z.2, fun z => ⟨hm2, z⟩⟩
      rw [if_neg Bool.false_ne_true, e]
      exact h 0
    · refine .inr ⟨od, ?_⟩
      walk_at "wi"
      exact h 0
theorem ok_Days_following (T : Tx K mg) : FnOk P w K mg base CX0 4 T.f_Days_following T.d_Days_following ["self", "d"] (liftX (bFoll T.c_Days)) := by
  refine T.F_Days_following.ok sc_Days_following (fun vs H Q E h => ?_) (fun cdv A outer s H vs Q E hr h => ?_)
  · obtain ⟨kn, _, _, a, i, t, rfl, _⟩ := h
    rfl
  · obtain ⟨kn, ex, nt, a, i, t, rfl, DA, h⟩ := h
    obtain ⟨dx, q, z1, z2⟩ := DA.at_
    have F := DA.least
    refine ⟨_, (pss_cons (ps_if (pt_not (pt_val (pe_call (ok_is_whole T) (hr.mono (by decide)) (by rfl) T.g_is_whole T.F_is_whole.kp T.bd_is_whole .nil pass0 (pa_cons (pv 1) pa_nil))))
       (pss_one ps_never)
       pss_nil)
       (pss_cons (ps_for PassesOwn.never rfl (pi_rangeA (prg_2 (by rfl) T.b_range (pv 1) (pe_op op_add (pv 1) (pe_fld (pv 0) rfl)))) (pg_name (i := 2) sc_Days_following.nd rfl (by first | exact Or.inl rfl | exact Or.inr rfl))
       (pss_one (ps_if (pt_cmpR (op_inO T.sm_Days___contains__ (ok_Days___contains__ T) (hr.mono (by decide)) T.bd_Days___contains__ pass0) (pv 2) (pv 0) (by rfl))
       (pss_one (ps_ret (pv 2)))
       pss_nil)))
       (pss_one (ps_ret pe_non)))), ?_⟩
    refine body_of (pure_start ex nt) ?_
    have cL := T.cl_Days
    have tp := F.pos
    walk_at "wi"
    refine w_call mo_whole err_no ?_
    walk_at "w"
    refine ⟨_, rfl, ?_⟩
    · refine .inl ⟨i, rfl, ?_⟩
      walk_at "wi"
      refine s_forJ (i_rgA ?_)
      walk_at "w"
      refine w_fld (w_var rfl ⟨_, _, _, _, _, rfl, z1, cL, T.na_Days__period, rfl, ?_⟩)
      refine r_I0 ?_
      refine ⟨i, _, rfl, rfl, ?_⟩
      have hm : (i + ((t.length : Nat) : Int) - i).toNat = t.length := by omega
      rw [hm]
      refine ⟨_, (fun _ => True), fun j σ' k m => m = 0 ∧ k = kn ∧ (∃ y2, σ' = [some (.ref a), some (.int i), y2]) ∧ ∀ l : Nat, l < j → inD t (i + l) = false, gives_rng, ⟨rfl, rfl, ⟨_, rfl⟩, fun l hl => absurd hl (Nat.not_lt_zero _)⟩, fun _ _ _ _ _ => trivial, ?_, ?_⟩
      · rintro j x σ' k m hx ⟨rfl, rfl, ⟨y2, rfl⟩, hp⟩
        rw [List.getElem?_map] at hx
        obtain ⟨l, hl, rfl⟩ := Option.map_eq_some_iff.1 hx
        obtain ⟨hj1, hj2⟩ := List.getElem?_eq_some_iff.1 hl
        rw [List.length_range] at hj1
        rw [List.getElem_range] at hj2
        subst hj2
        walk_at "wi"
        refine r_inO mo_has z1 ⟨_, _, _, rfl, DA, .inl ⟨_, rfl, _, rfl, ?_⟩⟩
        refine ⟨_, rfl, fun hb => ?_, fun hb => ?_⟩
        · walk_at "wi"
          exact h _ (.inl ⟨j, hj1, hp, hb, rfl⟩) 0
        · walk_at "wi"
          refine ⟨⟨_, rfl⟩, fun l hl => ?_⟩
          rcases Nat.lt_or_ge l j with z | z
          · exact hp l z
          · obtain rfl : l = j := by omega
            exact hb
      · rintro σ' k m ⟨rfl, rfl, ⟨y2, rfl⟩, hp⟩
        rw [List.length_map, List.length_range] at hp
        walk_at "wi"
        exact h _ (.inr ⟨hp, rfl⟩) 0
end
end D

end NN

namespace NN
open PySem PySem.Spec PyProof.Rows L2 LamX AW ClX
open Tx1 Ln
namespace D
theorem natV_inj {a b : List Nat} (h : natV a = natV b) : a = b := (List.map_inj_right (f := fun (n : Nat) => V.int n) (fun x y e => by have := V.int.inj e; omega)).1 h
theorem make_good {K : PySem.W.Frag} {C B : Addr} {vr : V} {kn1 : Hp} {Q : AK} {E : AXK} {p : Nat} {ys : List Nat} (h1 : 1 ≤ p) (h2 : p ≤ 7) (hy : ∀ y ∈ ys, y < p) (hl : ys.length ≤ 1000) (sv : SeqV K kn1 vr (natV ys)) (h : NewD C kn1 (formT p ys) Q) : MakeD K C B (.int p) vr kn1 Q E := by
  refine ⟨some (natV ys), ⟨sv, by rw [List.length_map]; exact hl, fun x hx => ?_⟩, .inl ⟨_, rfl⟩, fun p' ys' gp => ?_, fun part nb => ?_⟩
  · obtain ⟨m, _, rfl⟩ := List.mem_map.1 hx
    exact .inl ⟨_, rfl⟩
  · obtain ⟨e1, _, _, e2, _⟩ := gp
    have e1 := V.int.inj e1
    obtain rfl : p = p' := by omega
    obtain rfl := natV_inj (Option.some.inj e2)
    exact h
  · exfalso
    rcases nb with ⟨_, no⟩ | ⟨_, p', e1, _, _, no⟩
    · exact no ⟨p, rfl, h1, h2⟩
    · have e1 := V.int.inj e1
      obtain rfl : p = p' := by omega
      exact no ⟨ys, rfl, hy⟩
theorem MakeD.mono {K : PySem.W.Frag} {C B : Addr} {vp vr : V} {kn1 : Hp} {Q R : AK} {E F : AXK} (h1 : ∀ v k, Q v k → R v k) (h2 : ∀ cls d k, E cls d k → F cls d k) (h : MakeD K C B vp vr kn1 Q E) : MakeD K C B vp vr kn1 R F := by
  obtain ⟨o, a, b, c, d⟩ := h
  exact ⟨o, a, b, fun p ys g x k e n l => h1 _ _ (c p ys g x k e n l), fun part nb x k e n u => h2 _ _ _ (d part nb x k e n u)⟩
def bNew (C : Addr) (t : List Bool) : List V → Hp → AK → AXK → Prop := fun vs kn Q _ => vs = [] ∧ NewD C kn t Q
theorem mo_new {C : Addr} {t : List Bool} : MonoX (bNew C t) := by
  rintro vs kn Q R E F h1 h2 ⟨a, h⟩
  exact ⟨a, fun x k z1 z2 z3 => h1 _ _ (h x k z1 z2 z3)⟩
theorem form_F : formT 1 [] = [false] := by decide +kernel
section
variable {P : Program} {w : World} {K : PySem.W.Frag} {mg : Str → Option Value} {base : Heap}
theorem ok_Days_none (T : Tx K mg) : FnOk P w K mg base CX0 7 T.f_Days_none T.d_Days_none [] (liftX (bNew T.c_Days [false])) := by
  refine T.F_Days_none.ok sc_Days_none (fun vs H Q E h => ?_) (fun cdv A outer s H vs Q E hr h => ?_)
  · obtain ⟨kn, _, _, rfl, _⟩ := h
    rfl
  · obtain ⟨kn, ex, nt, rfl, h⟩ := h
    refine ⟨_, (pss_one (ps_ret (pe_make T.mk_Days (ok_Days___init__ T) (hr.mono (by decide)) (by rfl) T.g_Days T.bd_Days___init__ .nil passL (pa_cons pe_int (pa_cons (pe_tup pa_nil) pa_nil))))), ?_⟩
    refine body_of (pure_start ex nt) ?_
    walk_at "wi"
    refine w_days (B := T.c_BadDays) (EA := fun _ _ _ _ => False) err_no ?_
    walk_at "w"
    refine ⟨show 0 ≤ 1000 by decide, fun t2 h2 => ?_⟩
    walk_at "w"
    refine ⟨_, _, rfl, make_good (p := 1) (ys := []) (by decide) (by decide) (by decide) (by decide) ⟨t2, rfl, .inr (.inl upd_same)⟩ fun x k e n l => ?_⟩
    rw [form_F] at l
    exact h x k (ext_tr (ext_new h2) e) (free_ext (ext_new h2) n) l 0
theorem oR_Days_none (T : Tx K mg) : FnR P w K mg base CX0 7 T.f_Days_none (liftX (bNew T.c_Days [false])) :=
  ((ok_Days_none T).raw T.bd_Days_none .nil).imp fun vs H Q E h => by rw [List.append_nil]; exact h
end
end D

end NN

namespace NN
open PySem PySem.Spec PyProof.Rows L2 LamX AW ClX
open Tx1 Ln
section
variable {P : Program} {w : World} {K : PySem.W.Frag} {mg : Str → Option Value} {base : Heap}
theorem ok__law_draw (T : Tx K mg) : FnOk P w K mg base CX0 1 T.f__law_draw T.d__law_draw ["pen", "many"] spDraw := by
  refine T.F__law_draw.ok sc__law_draw (fun vs H Q E h => ?_) (fun cdv A outer s H vs Q E hr h => ?_)
  · obtain ⟨p, a, ns, n, many, rfl, _⟩ := h
    rfl
  · obtain ⟨p, a, ns, n, many, rfl, hp, hn, h0, h1, k⟩ := h
    obtain ⟨⟨i, g, hP, hi0, hin, hg0⟩, hA, hpa⟩ := hp
    refine ⟨_, (pss_cons (ps_if (pt_cmpR op_gt (pe_ix (show IxR _ (rIxL K) from ix_list) (pv 0) pe_int (fun _ _ => rfl)) pe_int (nomark _))
       (pss_cons (ps_set (i := 2) sc__law_draw.nd rfl (by first | exact Or.inl rfl | exact Or.inr rfl) (pe_op op_mod (pe_callTy c_int (by rfl) T.b_int boot_int (pa_cons (pe_ix (show IxR _ (rIxL K) from ix_list) (pv 0) pe_int (fun _ _ => rfl)) pa_nil)) (pv 1)))
       (pss_cons (ps_asg (pe_op op_fdivW (pe_callTy c_int (by rfl) T.b_int boot_int (pa_cons (pe_ix (show IxR _ (rIxL K) from ix_list) (pv 0) pe_int (fun _ _ => rfl)) pa_nil)) (pv 1)) (pg_sub (pv 0) pe_int set_list))
       (pss_one (ps_ret (pv 2)))))
       pss_nil)
       (pss_cons (ps_set (i := 3) sc__law_draw.nd rfl (by first | exact Or.inl rfl | exact Or.inr rfl) (pe_ix (show IxR _ (rIxL K) from ix_list) (pv 0) pe_int (fun _ _ => rfl)))
       (pss_cons (ps_asg (pe_op op_add (pv 3) pe_int) (pg_sub (pv 0) pe_int set_list))
       (pss_cons (ps_set (i := 4) sc__law_draw.nd rfl (by first | exact Or.inl rfl | exact Or.inr rfl) (pe_op op_add (pe_op op_mul pe_int (pv 3)) pe_int))
       (pss_cons (ps_if (pt_cmpR (op_neD hr.units) (pe_ix (show IxR _ (rIxL K) from ix_list) (pv 0) pe_int (fun _ _ => rfl)) (pe_lst pa_nil) (nomark _))
       (pss_one (ps_set (i := 4) sc__law_draw.nd rfl (by first | exact Or.inl rfl | exact Or.inr rfl) (pe_ix (show IxR _ (rIxL K) from ix_list) (pe_ix (show IxR _ (rIxL K) from ix_list) (pv 0) pe_int (fun _ _ => rfl)) (pe_op op_mod (pe_callTy c_int (by rfl) T.b_int boot_int (pa_cons (pv 3) pa_nil)) (pe_callB c_len (by rfl) T.b_len PySem.boot_len (pa_cons (pe_ix (show IxR _ (rIxL K) from ix_list) (pv 0) pe_int (fun _ _ => rfl)) pa_nil))) (fun _ _ => rfl))))
       pss_nil)
       (pss_cons (ps_if (PW.pt (pw_and (pt_cmpR op_lt (pv 3) (pe_callB c_len (by rfl) T.b_len PySem.boot_len (pa_cons (pe_ix (show IxR _ (rIxL K) from ix_list) (pv 0) pe_int (fun _ _ => rfl)) pa_nil)) (nomark _)) (pw_and1 (pt_cmpR op_ge (pe_callB c_abs (by rfl) T.b_abs (by decide +kernel) (pa_cons (pv 4) pa_nil)) (pe_op op_pow pe_int pe_int) (nomark _)))))
       (pss_cons (ps_set (i := 5) sc__law_draw.nd rfl (by first | exact Or.inl rfl | exact Or.inr rfl) (pe_op op_add (pe_op op_mul pe_int (pe_op op_sub (pe_callB c_abs (by rfl) T.b_abs (by decide +kernel) (pa_cons (pv 4) pa_nil)) (pe_op op_pow pe_int pe_int))) (pe_callTy c_int (by rfl) T.b_int boot_int (pa_cons (pe_cmpR op_lt (pv 4) pe_int (nomark _)) pa_nil))))
       (pss_cons (ps_asg (pe_op op_fdivW (pe_callTy c_int (by rfl) T.b_int boot_int (pa_cons (pv 5) pa_nil)) (pv 1)) (pg_sub (pv 0) pe_int set_list))
       (pss_one (ps_ret (pe_op op_mod (pe_callTy c_int (by rfl) T.b_int boot_int (pa_cons (pv 5) pa_nil)) (pv 1))))))
       pss_nil)
       (pss_cons (ps_set (i := 6) sc__law_draw.nd rfl (by first | exact Or.inl rfl | exact Or.inr rfl) (pe_op op_mod (pe_callTy c_int (by rfl) T.b_int boot_int (pa_cons (pe_op op_pow (pe_op op_add (pe_op op_add (pe_op op_mod (pe_callTy c_int (by rfl) T.b_int boot_int (pa_cons (pv 4) pa_nil)) pe_int) (pe_op op_mul pe_int (pv 3))) pe_int) pe_int) pa_nil)) pe_int))
       (pss_cons (ps_set (i := 6) sc__law_draw.nd rfl (by first | exact Or.inl rfl | exact Or.inr rfl) (pe_op op_mod (pe_callTy c_int (by rfl) T.b_int boot_int (pa_cons (pe_op op_pow (pe_op op_add (pe_op op_add (pe_op op_mul (pv 6) (pe_op op_add (pe_op op_mul pe_int (pv 3)) pe_int)) (pe_op op_mul (pe_op op_mul pe_int (pv 3)) (pv 3))) pe_int) pe_int) pa_nil)) pe_int))
       (pss_one (ps_ret (pe_op op_mod (pe_callTy c_int (by rfl) T.b_int boot_int (pa_cons (pe_op op_fdivW (pv 6) pe_int) pa_nil)) (pv 1)))))))))))), ?_⟩
    have e : Ext (penKn H p a) H := fun x o h => by
      unfold penKn at h
      split at h
      · exact h
      · cases h
    have kP : penKn H p a p = some (.lst [.ref a, .int i, .int g]) := (if_pos (.inl rfl)).trans hP
    have kA : penKn H p a a = some (.lst (ns.map V.int)) := (if_pos (.inr rfl)).trans hA
    have done : ∀ (k' : Int) (kn' : Hp) (n' : Nat) (i' g' : Int), 0 ≤ k' → k' < many → kn' p = some (.lst [.ref a, .int i', .int g']) → kn' a = some (.lst (ns.map V.int)) → 0 ≤ i' → i' ≤ (n + 1 : Nat) → 0 ≤ g' → ∀ H', Good (pureC (penKn H p a) H) kn' n' H' → Q (.int k') H' := fun k' kn' n' i' g' b1 b2 e1 e2 b3 b4 b5 H' G => by
      refine k k' H' b1 b2 ⟨⟨i', g', G.ex _ _ e1, b3, b4, b5⟩, G.ex _ _ e2, hpa⟩ fun x o hx hH => ?_
      by_cases hxa : x = a
      · rw [hxa, hA] at hH
        cases hH
        rw [hxa]
        exact G.ex _ _ e2
      · exact G.inv x o hH (.inl (if_neg (by simp [hx, hxa])))
    have hlog : many.natAbs.log2 < 9000 := Nat.lt_trans ((Nat.log2_lt (by omega)).mpr (show many.natAbs < 2 ^ 70 by omega)) (by decide)
    refine body_of (pure_start e (fun x o h => by
      unfold penKn at h
      split at h
      · rename_i hh
        rcases hh with rfl | rfl
        · rw [hP] at h; cases h; rfl
        · rw [hA] at h; cases h; rfl
      · cases h)) ?_
    walk_at "w"
    refine s_if ?_
    walk_at "w"
    refine ⟨fun hg => ?_, fun hg => ?_⟩
    · have hg' : 0 < g := of_decide_eq_true hg
      walk_at "w"
      refine r_I h0 ?_
      walk_at "w"
      refine r_I ⟨h0, hlog⟩ ?_
      walk_at "w"
      refine ⟨_, _, _, 2, rfl, rfl, kP, rfl, ?_⟩
      walk_at "w"
      have kA' : ∀ o, upd (penKn H p a) p o a = some (.lst (ns.map V.int)) := fun o => by rw [upd_ne hpa.symm]; exact kA
      exact done _ _ _ i (g / many) (Int.emod_nonneg _ (by omega)) (Int.emod_lt_of_pos _ h0) upd_same (kA' _) hi0 (by omega) (Int.ediv_nonneg hg0 (by omega))
    · walk_at "w"
      refine ⟨_, _, _, 1, rfl, rfl, kP, rfl, ?_⟩
      have kA1 : ∀ o, upd (penKn H p a) p o a = some (.lst (ns.map V.int)) := fun o => by rw [upd_ne hpa.symm]; exact kA
      have kP1 : ∀ o, upd (penKn H p a) p o p = some o := fun o => upd_same
      walk_at "w"
      refine r_I (.inl ⟨by decide, by decide⟩) ?_
      walk_at "w"
      -- if pen[0] != []
      refine s_join (fun σ' kn' n' => ∃ cell : Int, σ' = [some (.ref p), some (.int many), none, some (.int i), some (.int cell), none, none] ∧ kn' p = some (.lst [.ref a, .int (i + 1), .int g]) ∧ kn' a = some (.lst (ns.map V.int))) ?_ ?_
      · have kP1 := kP1 (.lst [.ref a, .int (i + 1), .int g])
        have kA1 := kA1 (.lst [.ref a, .int (i + 1), .int g])
        refine s_if ?_
        walk_at "w"
        refine ⟨by decide, fun l hl => ?_⟩
        refine r_ne_d (.lst (sql (know hl kA1)) (dp_ints ns)) (.lst (sql upd_same) .nil) (shaped_ints ns) rfl ?_
        walk_at "w"
        rw [nil_eqv]
        refine ⟨fun hb => ?_, fun hb => ?_⟩
        · have hne : ns ≠ [] := by
            intro z
            rw [z] at hb
            cases hb
          have hl0 : 0 < ns.length := by
            cases ns with
            | nil => exact absurd rfl hne
            | cons => exact Nat.succ_pos _
          have kA3 := know (o := .lst []) hl kA1
          have kP3 := know (o := .lst []) hl kP1
          walk_at "w"
          refine r_I (by rw [List.length_map]; omega) ?_
          obtain ⟨z, hz⟩ := at_mod ns i hl0
          refine r_ixL kA3 hz ?_
          walk_at "w"
          exact ⟨kP3, kA3⟩
        · walk_at "w"
          exact ⟨know hl kP1, know hl kA1⟩
      · rintro σ' kn' n' ⟨cell, rfl, kP2, kA2⟩
        have mod1 : ∀ x : Int, 0 ≤ x % many ∧ x % many < many := fun x => ⟨Int.emod_nonneg _ (by omega), Int.emod_lt_of_pos _ h0⟩
        walk_at "w"
        refine s_join (fun σ2 kn2 n2 => σ2 = [some (.ref p), some (.int many), none, some (.int i), some (.int cell), none, none] ∧ kn2 p = some (.lst [.ref a, .int (i + 1), .int g]) ∧ kn2 a = some (.lst (ns.map V.int))) ?_ ?_
        · refine s_if ?_
          walk_at "w"
          refine ⟨fun hb => ?_, fun hb => ?_⟩
          · walk_at "w"
            refine r_I ⟨by decide, by decide, by decide⟩ ?_
            walk_at "w"
            refine ⟨fun hb2 => ?_, fun hb2 => ?_⟩
            · have hc : (10 : Int) ^ (18 : Int).toNat ≤ if cell < 0 then -cell else cell := of_decide_eq_true hb2
              walk_at "w"
              refine r_I ⟨by decide, by decide, by decide⟩ ?_
              walk_at "w"
              refine r_I (.inl ⟨by decide, by decide⟩) ?_
              walk_at "w"
              refine r_I ⟨h0, hlog⟩ ?_
              walk_at "w"
              refine ⟨_, _, _, 2, rfl, rfl, kP2, rfl, ?_⟩
              walk_at "w"
              refine r_I h0 ?_
              refine done _ _ _ (i + 1) _ (mod1 _).1 (mod1 _).2 upd_same (by rw [upd_ne hpa.symm]; exact kA2) (by omega) (by omega) (Int.ediv_nonneg ?_ (by omega))
              split <;> omega
            · walk_at "w"
              exact ⟨rfl, kP2, kA2⟩
          · walk_at "w"
            exact ⟨rfl, kP2, kA2⟩
        · rintro σ2 kn2 n2 ⟨rfl, kP3, kA3⟩
          walk_at "w"
          refine r_I (by decide) ?_
          obtain ⟨x, hx⟩ : ∃ x : Int, x = cell % 2147483549 := ⟨_, rfl⟩
          have x0 : 0 ≤ x := hx ▸ Int.emod_nonneg _ (by decide)
          have x1 : x < 2147483549 := hx ▸ Int.emod_lt_of_pos _ (by decide)
          rw [← hx]
          walk_at "w"
          refine r_I (.inl ⟨by decide, by decide⟩) ?_
          walk_at "w"
          refine r_I ⟨by decide, by decide, by omega⟩ ?_
          walk_at "w"
          refine r_I (by decide) ?_
          generalize ((x + 51061 * i + 997) ^ (5 : Int).toNat) = y
          obtain ⟨z, hz⟩ : ∃ z : Int, z = y % 2147483629 := ⟨_, rfl⟩
          have z0 : 0 ≤ z := hz ▸ Int.emod_nonneg _ (by decide)
          have z1 : z < 2147483629 := hz ▸ Int.emod_lt_of_pos _ (by decide)
          rw [← hz]
          walk_at "w"
          refine r_I (.inl ⟨by decide, by decide⟩) ?_
          walk_at "w"
          refine r_I (.inl ⟨by omega, by omega⟩) ?_
          walk_at "w"
          refine r_I (.inl ⟨by decide, by decide⟩) ?_
          walk_at "w"
          refine r_I (.inl ⟨by omega, by omega⟩) ?_
          walk_at "w"
          obtain ⟨m1, m2⟩ := mul_bd z0 (show z ≤ 2147483629 by omega) (show 0 ≤ 2 * i + 353 by omega) (show 2 * i + 353 ≤ 2000353 by omega)
          obtain ⟨m3, m4⟩ := mul_bd (show 0 ≤ 52267 * i by omega) (show 52267 * i ≤ 52267000000 by omega) hi0 (show i ≤ 1000000 by omega)
          refine r_I ⟨by decide, by decide, by omega⟩ ?_
          walk_at "w"
          refine r_I (by decide) ?_
          walk_at "w"
          refine r_I ⟨by decide, by decide⟩ ?_
          walk_at "w"
          refine r_I h0 ?_
          exact done _ _ _ (i + 1) g (mod1 _).1 (mod1 _).2 kP3 kA3 (by omega) (by omega) hg0

/-- _law_pick -/
def bPick : List V → Hp → AK → AXK → Prop := fun vs kn Q _ => ∃ l xs, vs = [.ref l] ∧ kn l = some (.lst xs) ∧ 0 < xs.length ∧ xs.length ≤ 1000 ∧ ∀ v ∈ xs, Q v kn
theorem mo_pick : MonoX bPick := by
  rintro vs kn Q R E F h1 h2 ⟨l, xs, a, b, c, d, h⟩
  exact ⟨l, xs, a, b, c, d, fun v hv => h1 _ _ (h v hv)⟩
theorem ok__law_pick (T : Tx K mg) (TT : List (Addr × Str)) : FnOk P w K mg base CX0 2 T.f__law_pick T.d__law_pick ["pen", "some"] (liftP TT 1 bPick) := by
  refine T.F__law_pick.ok sc__law_pick (fun vs H Q E h => ?_) (fun cdv A outer s H vs Q E hr h => ?_)
  · obtain ⟨p, a, ns, n, kn, ws, rfl, _, _, l, xs, rfl, _⟩ := h
    rfl
  · obtain ⟨p, a, ns, n, kn, ws, rfl, g, hn, l, xs, rfl, hl, l1, l2, h⟩ := h
    refine ⟨_, (pss_one (ps_ret (pe_ix (show IxR _ (rIxL K) from ix_list) (pv 1) (pe_call (ok__law_draw T) (hr.mono (by decide)) (by rfl) T.g__law_draw T.F__law_draw.kp T.bd__law_draw .nil pass0 (pa_cons (pv 0) (pa_cons (pe_callB c_len (by rfl) T.b_len PySem.boot_len (pa_cons (pv 1) pa_nil)) pa_nil))) (fun _ _ => rfl)))), ?_⟩
    refine body_of g ?_
    walk_at "w"
    refine w_draw ?_
    walk_at "w"
    refine ⟨by omega, by omega, by omega, fun k k0 k1 => ?_⟩
    obtain ⟨j, hj⟩ : ∃ j : Nat, k = j := ⟨k.toNat, by omega⟩
    subst hj
    have hj : j < xs.length := by omega
    refine r_ixL hl (atI_nat (List.getElem?_eq_getElem hj)) ?_
    exact h _ (List.getElem_mem hj)
/-- _law_pen -/
def spPen (K : PySem.W.Frag) : Sp := fun vs H Q _ => ∃ (s : Addr) (ns : List Int), vs = [.ref s] ∧ SqL K H s (ns.map V.int) ∧
  ∀ (p a : Addr) (ns' : List Int) (H' : Hp), p ≠ a → H p = none → H a = none → H' p = some (.lst [.ref a, .int 0, .int 0]) → H' a = some (.lst (ns'.map V.int)) → Ext H H' → Q (.ref p) H'
theorem cut_map (ns : List Int) (lo hi : Option Int) : ∃ ns' : List Int, cutV (ns.map V.int) lo hi = ns'.map V.int := by
  unfold cutV
  exact ⟨(ns.drop _).take _, by rw [List.map_take, List.map_drop]⟩
theorem ok__law_pen (T : Tx K mg) : FnOk P w K mg base CX0 1 T.f__law_pen T.d__law_pen ["script"] (spPen K) := by
  refine T.F__law_pen.ok sc__law_pen (fun vs H Q E h => ?_) (fun cdv A outer s H vs Q E hr h => ?_)
  · obtain ⟨s, ns, rfl, _⟩ := h
    rfl
  · obtain ⟨sc, ns, rfl, hs, h⟩ := h
    refine ⟨_, (pss_one (ps_ret (pe_lst (pa_cons (pe_callTy c_list (by rfl) T.b_list (by decide +kernel) (pa_cons (pe_slice (show SlR _ (rSlL K) from sl_list) (pv 0) po_none (po_some pe_int)) pa_nil)) (pa_cons pe_int (pa_cons pe_int pa_nil)))))), ?_⟩
    obtain ⟨ns', e⟩ := cut_map ns none (some 63)
    refine ⟨_, rfl, _, rfl, sc, _, rfl, hs, fun l hl => ⟨l, _, rfl, .inl (sql upd_same), fun a ha => ⟨(by rw [sizeLine_eq]; exact (show 3 ≤ 16777216 by decide)), fun p hp => ?_⟩⟩⟩
    have la : l ≠ a := fun z => by rw [z, upd_same] at ha; cases ha
    have ha0 : H a = none := by rw [upd_ne (Ne.symm la)] at ha; exact ha
    have pa : p ≠ a := fun z => by rw [z, upd_same] at hp; cases hp
    have pl : p ≠ l := fun z => by rw [z, upd_ne la, upd_same] at hp; cases hp
    have hp0 : H p = none := by rw [upd_ne pa, upd_ne pl] at hp; exact hp
    refine h p a ns' _ pa hp0 ha0 upd_same ?_ ?_
    · rw [upd_ne (Ne.symm pa), upd_same, e]
    · exact fun x o hx => by rw [upd_ne (ne_of_none hx hp0), upd_ne (ne_of_none hx ha0), upd_ne (ne_of_none hx hl)]; exact hx
end

end NN

namespace NN
open PySem PySem.Spec PyProof.Rows L2 LamX AW ClX
open Tx1 Ln
namespace D
theorem nf_self {K : PySem.W.Frag} {C : Addr} : PySem.W.notFirst K C (.ref C) = true := by
  unfold PySem.W.notFirst
  simp
/-! ### the same days -/
theorem inD_form {s : Nat} {ys : List Nat} (h1 : 1 ≤ s) (x : Int) : inD (formT s ys) x = decide ((x % (s : Int)).toNat ∈ ys) := by
  have ml := mask_len s ys
  obtain ⟨pd, pp⟩ := leastP_per (t := maskOf s ys) (by omega)
  have ple := leastP_le (maskOf s ys)
  have ppos := leastP_pos (t := maskOf s ys) (by omega)
  unfold inD
  rw [form_len]
  unfold formT
  rw [ml] at pd ple
  generalize hP : leastP (maskOf s ys) = P at pd pp ple ppos ⊢
  have hx0 := Int.emod_nonneg x (show (P : Int) ≠ 0 by omega)
  have hx1 := Int.emod_lt_of_pos x (show (0 : Int) < P by omega)
  have hs0 := Int.emod_nonneg x (show (s : Int) ≠ 0 by omega)
  have hs1 := Int.emod_lt_of_pos x (show (0 : Int) < s by omega)
  rw [ix_take (by omega), ← ix_mask (show (x % (s : Int)).toNat < s by omega), pp (x % (s : Int)).toNat (by rw [ml]; omega)]
  congr 1
  have e : (x % (s : Int)) % (P : Int) = x % (P : Int) := Int.emod_emod_of_dvd x (Int.natCast_dvd_natCast.2 (Nat.dvd_of_mod_eq_zero pd))
  have e2 : (((x % (s : Int)).toNat % P : Nat) : Int) = x % (P : Int) := by
    rw [Int.natCast_emod, Int.toNat_of_nonneg hs0, e]
  omega
theorem mask_congr {s : Nat} {a b : List Nat} (h : ∀ i, i ∈ a ↔ i ∈ b) : maskOf s a = maskOf s b := by
  unfold maskOf
  apply List.map_congr_left
  intro i _
  exact decide_eq_decide.2 (h i)
theorem form_congr {s : Nat} {a b : List Nat} (h : ∀ i, i ∈ a ↔ i ∈ b) : formT s a = formT s b := by
  unfold formT
  rw [mask_congr h]
theorem inD_per {t : List Bool} (x : Int) (k : Int) : inD t (x + k * (t.length : Int)) = inD t x := by
  unfold inD
  rw [Int.add_mul_emod_self_right]
theorem inD_eq {t : List Bool} {x y : Int} (h : x % (t.length : Int) = y % (t.length : Int)) : inD t x = inD t y := by
  unfold inD
  rw [h]
theorem inD_mod {t : List Bool} {L : Nat} (h : t.length ∣ L) (x : Int) : inD t (x % (L : Int)) = inD t x :=
  inD_eq (Int.emod_emod_of_dvd x (Int.natCast_dvd_natCast.2 h))
theorem bez : ∀ p : Nat, p < 8 → ∀ q : Nat, q < 8 → 1 ≤ p → 1 ≤ q → ∃ a : Nat, a < 8 ∧ a * p % q = Nat.gcd p q % q := by decide +kernel
theorem inD_nat {t : List Bool} {i : Nat} (h : i < t.length) : inD t (i : Int) = ix t i := by
  unfold inD
  rw [Int.emod_eq_of_lt (by omega) (by omega), Int.toNat_natCast]
theorem per_gcd {t u : List Bool} (F : Least t) (G : Least u) (h : ∀ x, inD t x = inD u x) (x : Int) : inD t (x + (Nat.gcd t.length u.length : Nat)) = inD t x := by
  have f1 := F.pos; have f2 := F.le; have g1 := G.pos; have g2 := G.le
  obtain ⟨a, _, ha⟩ := bez t.length (by omega) u.length (by omega) f1 g1
  have e1 : inD t (x + (a : Int) * (t.length : Int)) = inD t x := inD_per x a
  have e2 : inD u (x + (a : Int) * (t.length : Int)) = inD u (x + (Nat.gcd t.length u.length : Nat)) := by
    refine inD_eq ?_
    have : ((a : Int) * (t.length : Int)) % (u.length : Int) = ((Nat.gcd t.length u.length : Nat) : Int) % (u.length : Int) := by
      have := congrArg (fun (n : Nat) => (n : Int)) ha
      simp only [Int.natCast_emod, Int.natCast_mul] at this
      exact this
    rw [Int.add_emod, this, ← Int.add_emod]
  rw [h, ← e2, ← h, e1]
theorem per_gcds {t u : List Bool} (F : Least t) (G : Least u) (h : ∀ x, inD t x = inD u x) (x : Int) : ∀ k : Nat, inD t (x + (k * Nat.gcd t.length u.length : Nat)) = inD t x
  | 0 => by rw [Nat.zero_mul]; exact congrArg (inD t) (by omega)
  | k + 1 => by
    have := per_gcd F G h (x + (k * Nat.gcd t.length u.length : Nat))
    rw [per_gcds F G h x k] at this
    rw [← this]
    exact congrArg (inD t) (by rw [Nat.succ_mul]; omega)
theorem len_gcd {t u : List Bool} (F : Least t) (G : Least u) (h : ∀ x, inD t x = inD u x) : t.length = Nat.gcd t.length u.length := by
  have f1 := F.pos
  have gd := Nat.gcd_dvd_left t.length u.length
  have gp : 0 < Nat.gcd t.length u.length := Nat.gcd_pos_of_pos_left _ f1
  have gl := Nat.le_of_dvd f1 gd
  rcases Nat.lt_or_ge (Nat.gcd t.length u.length) t.length with z | z
  · exfalso
    refine leastP_min (t := t) gp (by rw [F.per]; exact z) (Nat.mod_eq_zero_of_dvd gd) fun i hi => ?_
    have hm := Nat.mod_lt i gp
    have e := per_gcds F G h ((i % Nat.gcd t.length u.length : Nat) : Int) (i / Nat.gcd t.length u.length)
    rw [← inD_nat hi, ← inD_nat (show i % Nat.gcd t.length u.length < t.length by omega), ← e]
    refine congrArg (inD t) ?_
    have := Nat.mod_add_div i (Nat.gcd t.length u.length)
    rw [Nat.mul_comm] at this
    omega
  · omega
theorem inD_uniq {t u : List Bool} (F : Least t) (G : Least u) (h : ∀ x, inD t x = inD u x) : t = u := by
  have e1 := len_gcd F G h
  have e2 := len_gcd G F fun x => (h x).symm
  rw [Nat.gcd_comm] at e2
  have e : t.length = u.length := e1.trans e2.symm
  refine ext_ix e fun i hi => ?_
  rw [← inD_nat hi, ← inD_nat (by omega), h]
theorem lcm_dvd_of {t u : List Bool} : t.length ∣ Nat.lcm t.length u.length ∧ u.length ∣ Nat.lcm t.length u.length := ⟨Nat.dvd_lcm_left _ _, Nat.dvd_lcm_right _ _⟩
theorem lcm_pos_of {t u : List Bool} (F : Least t) (G : Least u) : 0 < Nat.lcm t.length u.length := Nat.lcm_pos F.pos G.pos
/-- what is told of each day of a round -/
def dayL (L : Nat) (p : Int → Bool) : List Nat := (List.range L).filter fun n => p (n : Int)
theorem mem_dayL {L : Nat} {p : Int → Bool} {n : Nat} : n ∈ dayL L p ↔ n < L ∧ p (n : Int) = true := by
  unfold dayL
  rw [List.mem_filter, List.mem_range]
theorem dayL_lt {L : Nat} {p : Int → Bool} : ∀ y ∈ dayL L p, y < L := fun y hy => (mem_dayL.1 hy).1
theorem dayL_len (L : Nat) (p : Int → Bool) : (dayL L p).length ≤ L := Nat.le_trans (List.length_filter_le _ _) (by rw [List.length_range]; exact Nat.le_refl _)
theorem inD_dayL {L : Nat} {p : Int → Bool} (h1 : 1 ≤ L) (hp : ∀ x, p (x % (L : Int)) = p x) (x : Int) : inD (formT L (dayL L p)) x = p x := by
  rw [inD_form h1]
  have h0 := Int.emod_nonneg x (show (L : Int) ≠ 0 by omega)
  have h2 := Int.emod_lt_of_pos x (show (0 : Int) < L by omega)
  rw [Bool.eq_iff_iff, decide_eq_true_eq, mem_dayL]
  have e : (((x % (L : Int)).toNat : Nat) : Int) = x % (L : Int) := Int.toNat_of_nonneg h0
  rw [e, hp]
  exact ⟨fun z => z.2, fun z => ⟨by omega, z⟩⟩
def subB (t u : List Bool) : Bool := (List.range (Nat.lcm t.length u.length)).all fun n => !inD t (n : Int) || inD u (n : Int)
theorem subB_iff {t u : List Bool} (F : Least t) (G : Least u) : subB t u = true ↔ ∀ x, inD t x = true → inD u x = true := by
  unfold subB
  rw [List.all_eq_true]
  have lp := lcm_pos_of F G
  constructor
  · intro h x hx
    have h0 := Int.emod_nonneg x (show ((Nat.lcm t.length u.length : Nat) : Int) ≠ 0 by omega)
    have h2 := Int.emod_lt_of_pos x (show (0 : Int) < ((Nat.lcm t.length u.length : Nat) : Int) by omega)
    have := h (x % ((Nat.lcm t.length u.length : Nat) : Int)).toNat (List.mem_range.2 (by omega))
    rw [Int.toNat_of_nonneg h0, inD_mod lcm_dvd_of.1, inD_mod lcm_dvd_of.2, hx] at this
    simpa using this
  · intro h n _
    cases e : inD t (n : Int) with
    | false => rfl
    | true => rw [h _ e]; rfl
abbrev andn (x y : Bool) : Bool := x && !y
/-- TooMany -/
def BadTM (B : Addr) (kn : Hp) (E : AXK) : Prop := ∀ d k', Ext kn k' → kn d = none → k' d = some (.xd [("most", .int 7), ("what", .str "days")]) → E (.ref B) (some d) k'
def bCP (C B : Addr) : List V → Hp → AK → AXK → Prop := fun vs kn Q E => ∃ a b t u, vs = [.ref a, .ref b] ∧ DayAt C kn a t ∧ DayAt C kn b u ∧ (Nat.lcm t.length u.length ≤ 7 → Q (.int (Nat.lcm t.length u.length : Nat)) kn) ∧ (7 < Nat.lcm t.length u.length → BadTM B kn E)
theorem mo_cp {C B : Addr} : MonoX (bCP C B) := by
  rintro vs kn Q R E F h1 h2 ⟨a, b, t, u, e, x, y, h, g⟩
  exact ⟨a, b, t, u, e, x, y, fun z => h1 _ _ (h z), fun z d k u1 u2 u3 => h2 _ _ _ (g z d k u1 u2 u3)⟩
def bJoin (f : Bool → Bool → Bool) (C B : Addr) : List V → Hp → AK → AXK → Prop := fun vs kn Q E => ∃ a b t u, vs = [.ref a, .ref b] ∧ DayAt C kn a t ∧ DayAt C kn b u ∧ (Nat.lcm t.length u.length ≤ 7 → ∀ r, Least r → (∀ x, inD r x = f (inD t x) (inD u x)) → NewD C kn r Q) ∧ (7 < Nat.lcm t.length u.length → BadTM B kn E)
theorem mo_join {f : Bool → Bool → Bool} {C B : Addr} : MonoX (bJoin f C B) := by
  rintro vs kn Q R E F h1 h2 ⟨a, b, t, u, e, x, y, h, g⟩
  exact ⟨a, b, t, u, e, x, y, fun z r l i s k u1 u2 u3 => h1 _ _ (h z r l i s k u1 u2 u3), fun z d k u1 u2 u3 => h2 _ _ _ (g z d k u1 u2 u3)⟩
def bInv (C : Addr) : List V → Hp → AK → AXK → Prop := fun vs kn Q E => ∃ a t, vs = [.ref a] ∧ DayAt C kn a t ∧ ∀ r, Least r → (∀ x, inD r x = !inD t x) → NewD C kn r Q
theorem mo_inv {C : Addr} : MonoX (bInv C) := by
  rintro vs kn Q R E F h1 h2 ⟨a, t, e, x, h⟩
  exact ⟨a, t, e, x, fun r l i s k u1 u2 u3 => h1 _ _ (h r l i s k u1 u2 u3)⟩
def bSh (C : Addr) (sg : Int) : List V → Hp → AK → AXK → Prop := fun vs kn Q E => ∃ a t k, vs = [.ref a, .int k] ∧ DayAt C kn a t ∧ ∀ r, Least r → (∀ x, inD r x = inD t (x - sg * k)) → NewD C kn r Q
theorem mo_sh {C : Addr} {sg : Int} : MonoX (bSh C sg) := by
  rintro vs kn Q R E F h1 h2 ⟨a, t, k, e, x, h⟩
  exact ⟨a, t, k, e, x, fun r l i s k u1 u2 u3 => h1 _ _ (h r l i s k u1 u2 u3)⟩
def bCmp (C : Addr) (f : List Bool → List Bool → Bool) : List V → Hp → AK → AXK → Prop := fun vs kn Q _ => ∃ a b t u, vs = [.ref a, .ref b] ∧ DayAt C kn a t ∧ DayAt C kn b u ∧ ∀ k', Ext kn k' → Q (.bl (f t u)) k'
theorem mo_cmp {C : Addr} {f : List Bool → List Bool → Bool} : MonoX (bCmp C f) := by
  rintro vs kn Q R E F h1 h2 ⟨a, b, t, u, e, x, y, h⟩
  exact ⟨a, b, t, u, e, x, y, fun k z => h1 _ _ (h k z)⟩
section
variable {c : Cw} {kn : Hp} {n : Nat} {σ : L2.St} {Q : V → Hp → Nat → Prop} {K : PySem.W.Frag} {mg : Str → Option Value}
theorem r_hasD {C a : Addr} {t : List Bool} {i : Int} {neg : Bool} (l : DayAt C kn a t) (q : Q (.bl (if neg then !inD t i else inD t i)) kn n) : W c (rInO C (liftX (bHas K C)) neg (.int i) (.ref a)) kn n Q := by
  obtain ⟨dx, p, a1, b1⟩ := l.at_
  exact r_inO mo_has a1 ⟨_, _, _, rfl, l, .inl ⟨i, rfl, _, rfl, q⟩⟩
theorem r_eqDD (T : Tx K mg) {s s' : Addr} {t t' : List Bool} {neg : Bool} (l : DayAt T.c_Days kn s t) (l' : DayAt T.c_Days kn s' t') (q : Q (.bl (if neg then !decide (t = t') else decide (t = t'))) kn n) : W c (rEqO K T.c_Days (liftX (bEq K T.c_Days)) neg (.ref s) (.ref s')) kn n Q := by
  obtain ⟨dx, q1, a1, a2⟩ := l.at_
  obtain ⟨dx', q2, b1, b2⟩ := l'.at_
  exact r_eqO mo_eq a1 (T.own_Days.ty b1) nf_self ⟨_, _, _, rfl, l, .inl ⟨_, _, rfl, l', _, rfl, q⟩⟩
theorem w_per {C : Addr} {E : XK} {i : Nat} {a : Addr} {t : List Bool} (hv : σ[i]? = some (some (.ref a))) (l : DayAt C kn a t) (q : Q (.int t.length) kn n) : W c (tProp C (liftX (bPer C)) [] E (tVar i) σ) kn n Q := by
  obtain ⟨dx, q1, a1, a2⟩ := l.at_
  exact w_prop mo_per (w_var hv ⟨a, dx, _, rfl, a1, _, _, rfl, l, q⟩)
/-- [n for n in range(L) if ..] of what is asked of each day -/
theorem w_lcDays {te : TE} {tt : TT} {m L : Nat} {pr : Int → Bool} (hte : ∀ R : V → Hp → Nat → Prop, R (.int L) kn n → W c (te σ) kn n R) (hL : L ≤ 1000)
    (h9 : ∀ v : V, ((wipe σ [m]).set m (some v))[m]? = some (some v)) (hw : ∀ v : V, wipe ((wipe σ [m]).set m (some v)) [m] = wipe σ [m])
    (ht : ∀ (i : Nat) (k : Hp) (R : Bool → Hp → Nat → Prop), Ext kn k → R (pr (i : Int)) k n → W c (tt ((wipe σ [m]).set m (some (.int (i : Int))))) k n R)
    (hq : ∀ D, kn D = none → Q (.ref D) (upd kn D (.lst (natV (dayL L pr)))) n) :
    W c (tLc (iRng1 (tCons te tNil)) (gName m) tt (tVar m) [m] σ) kn n Q := by
  refine w_lcP (i_rng1 (w_cons (hte _ (w_nil ⟨L, rfl, by omega, by omega, ?_⟩))))
  rw [Int.toNat_natCast]
  refine ⟨_, (fun _ => True), (fun v => v), (fun v => match v with | .int i => pr i | _ => false), gives_rng, by rw [List.length_map, List.length_range]; omega, fun _ _ => trivial, fun x hx k ek => ?_, fun D hD => ?_⟩
  · obtain ⟨i, hm, rfl⟩ := List.mem_map.1 hx
    rw [Int.zero_add]
    refine g_name ⟨rfl, rfl, hw _, ?_⟩
    exact ht i k _ ek ⟨rfl, rfl, rfl, fun _ => w_var (h9 _) ⟨rfl, rfl, rfl⟩⟩
  · rw [List.map_id', rng_filter (P := fun i => pr (i : Int)) (fun i hi => by rw [Int.zero_add])]
    exact hq D hD
end
end D

end NN

namespace NN
open PySem PySem.Spec PyProof.Rows L2 LamX AW ClX
open Tx1 Ln
namespace D
section
variable {P : Program} {w : World} {K : PySem.W.Frag} {mg : Str → Option Value} {base : Heap}
theorem ok_common_period (T : Tx K mg) : FnOk P w K mg base (L2.CX P w) 4 T.f_common_period T.d_common_period ["one", "other"] (liftX (bCP T.c_Days T.c_TooMany)) := by
  refine T.F_common_period.okX sc_common_period (fun vs H Q E h => ?_) (fun cdv A outer s H vs Q E hr h => ?_)
  · obtain ⟨kn, _, _, a, b, t, u, rfl, _⟩ := h
    rfl
  · obtain ⟨kn, ex, nt, a, b, t, u, rfl, da, db, h, hb⟩ := h
    refine ⟨_, (pss_cons (ps_set (i := 2) sc_common_period.nd rfl (by first | exact Or.inl rfl | exact Or.inr rfl) (pe_callMB cr_lcm (by rfl) T.g_lcm (pa_cons (pe_prop (pv 0) T.cl_Days T.pp_Days_period (ok_Days_period T) (hr.mono (by decide)) T.bd_Days_period .nil pass0 (by rfl)) (pa_cons (pe_prop (pv 1) T.cl_Days T.pp_Days_period (ok_Days_period T) (hr.mono (by decide)) T.bd_Days_period .nil pass0 (by rfl)) pa_nil))))
       (pss_cons (ps_if (pt_cmpR op_gt (pv 2) (pe_cval (pe_glob (v := .ref T.c_Days) (by rfl) T.g_Days rfl)) (nomark _))
       (pss_one (ps_raise rfl (takes_of rfl rfl rfl rfl) (pmk_oex T.x_TooMany T.fi_TooMany___init__ T.ti_TooMany (ok_TooMany___init__ T) (hr.mono (by decide)) T.bd_TooMany___init__ .nil pass0 (by rfl) T.g_TooMany (pa_cons pe_str (pa_cons (pe_cval (pe_glob (v := .ref T.c_Days) (by rfl) T.g_Days rfl)) pa_nil)))))
       pss_nil)
       (pss_one (ps_ret (pv 2))))), ?_⟩
    refine body_of (pure_start ex nt) ?_
    obtain ⟨mu, hmu⟩ := T.cv_Days_MOST
    have f2 := da.least.le
    have g2 := db.least.le
    walk_at "wi"
    refine w_per rfl da ?_
    walk_at "wi"
    refine w_per rfl db ?_
    walk_at "wi"
    refine r_lcm (by omega) (by omega) ?_
    walk_at "wi"
    refine ⟨_, _, _, _, rfl, T.cr_Days, hmu, ?_⟩
    walk_at "wi"
    refine ⟨fun h1 => ?_, fun h1 => ?_⟩
    · have h1 : 7 < Nat.lcm t.length u.length := by have := of_decide_eq_true h1; omega
      walk_at "wi"
      refine s_raise2 T.x_TooMany T.nx_TooMany_what T.nx_TooMany_most err_body ?_
      walk_at "w"
      refine ⟨_, _, _, _, rfl, T.cr_Days, hmu, ?_⟩
      walk_at "w"
      exact ⟨_, _, rfl, fun d hd => hb h1 d _ (ext_new hd) hd upd_same 0⟩
    · have h1 : Nat.lcm t.length u.length ≤ 7 := by have := of_decide_eq_false h1; omega
      walk_at "wi"
      exact h h1 0
theorem ok_Days___and__ (T : Tx K mg) : FnOk P w K mg base (L2.CX P w) 7 T.f_Days___and__ T.d_Days___and__ ["self", "other"] (liftX (bJoin and T.c_Days T.c_TooMany)) := by
  refine T.F_Days___and__.okX sc_Days___and__ (fun vs H Q E h => ?_) (fun cdv A outer s H vs Q E hr h => ?_)
  · obtain ⟨kn, _, _, a, b, t, u, rfl, _⟩ := h
    rfl
  · obtain ⟨kn, ex, nt, a, b, t, u, rfl, da, db, h, hb⟩ := h
    refine ⟨_, (pss_cons (ps_set (i := 2) sc_Days___and__.nd rfl (by first | exact Or.inl rfl | exact Or.inr rfl) (pe_call (ok_common_period T) (hr.mono (by decide)) (by rfl) T.g_common_period T.F_common_period.kp T.bd_common_period .nil (passes_call (takes_of rfl rfl rfl rfl) (fun _ _ _ _ h => h)) (pa_cons (pv 0) (pa_cons (pv 1) pa_nil))))
       (pss_one (ps_ret (pe_make T.mk_Days (ok_Days___init__ T) (hr.mono (by decide)) (by rfl) T.g_Days T.bd_Days___init__ .nil (passes_call (takes_of rfl rfl rfl rfl) (fun _ _ _ _ h => h)) (pa_cons (pv 2) (pa_cons (pe_lc (own := [("n", 3)]) (g := gName 3) (by rfl) sc_Days___and__.nd (pi_range1 (by rfl) T.b_range (pa_cons (pv 2) pa_nil)) (blkOk_by (own := [("n", 3)]) (N := ["self", "other", "period", "n"]) (sc := defScope s_Days___and__) (by decide +kernel)) (fun _ _ _ _ _ => pg_name (i := 3) sc_Days___and__.nd rfl (Or.inl rfl)) (fun _ _ _ _ _ => (pts_one (PW.pt (pw_and (pt_cmpR (op_inO T.sm_Days___contains__ (ok_Days___contains__ T) (hr.mono (by decide)) T.bd_Days___contains__ pass0) (pv 3) (pv 0) (by rfl)) (pw_and1 (pt_cmpR (op_inO T.sm_Days___contains__ (ok_Days___contains__ T) (hr.mono (by decide)) T.bd_Days___contains__ pass0) (pv 3) (pv 1) (by rfl))))))) (fun _ _ _ _ _ => (pv 3))) pa_nil)))))), ?_⟩
    refine body_of (pure_start ex nt) ?_
    walk_at "wi"
    refine w_call mo_cp err_body ?_
    walk_at "wi"
    refine ⟨a, b, t, u, rfl, da, db, fun h7 => ?_, fun h7 d k e n hd => hb h7 d k e n hd 0⟩
    have l1 := lcm_pos_of da.least db.least
    have dv := lcm_dvd_of (t := t) (u := u)
    have h := h h7
    generalize Nat.lcm t.length u.length = L at h h7 l1 dv ⊢
    walk_at "wi"
    refine w_days (EA := bodyX _ E) err_body ?_
    walk_at "w"
    refine w_lcDays (L := L) (pr := fun x => and (inD t x) (inD u x)) (fun R hR => w_var rfl hR) (by omega) (fun _ => rfl) (fun _ => rfl) (fun i k R ek hR => ?_) fun D hD => ?_
    · walk_at "w"
      refine r_hasD (DayAt.ext ek da) ?_
      rw [if_neg Bool.false_ne_true]
      walk_at "w"
      refine ⟨fun h1 => ?_, fun h1 => ?_⟩
      · walk_at "w"
        refine r_hasD (DayAt.ext ek db) ?_
        rw [if_neg Bool.false_ne_true]
        walk_at "w"
        rw [h1] at hR
        exact hR
      · rw [h1] at hR
        exact hR
    · walk_at "w"
      refine ⟨_, _, rfl, make_good l1 h7 dayL_lt (Nat.le_trans (dayL_len _ _) (by omega)) ⟨D, rfl, .inl upd_same⟩ fun x k e n d => ?_⟩
      exact h _ (form_least l1 h7) (inD_dayL l1 fun x => by rw [inD_mod dv.1, inD_mod dv.2]) x k (ext_tr (ext_new hD) e) (free_ext (ext_new hD) n) d 0
theorem ok_Days___or__ (T : Tx K mg) : FnOk P w K mg base (L2.CX P w) 7 T.f_Days___or__ T.d_Days___or__ ["self", "other"] (liftX (bJoin or T.c_Days T.c_TooMany)) := by
  refine T.F_Days___or__.okX sc_Days___or__ (fun vs H Q E h => ?_) (fun cdv A outer s H vs Q E hr h => ?_)
  · obtain ⟨kn, _, _, a, b, t, u, rfl, _⟩ := h
    rfl
  · obtain ⟨kn, ex, nt, a, b, t, u, rfl, da, db, h, hb⟩ := h
    refine ⟨_, (pss_cons (ps_set (i := 2) sc_Days___or__.nd rfl (by first | exact Or.inl rfl | exact Or.inr rfl) (pe_call (ok_common_period T) (hr.mono (by decide)) (by rfl) T.g_common_period T.F_common_period.kp T.bd_common_period .nil (passes_call (takes_of rfl rfl rfl rfl) (fun _ _ _ _ h => h)) (pa_cons (pv 0) (pa_cons (pv 1) pa_nil))))
       (pss_one (ps_ret (pe_make T.mk_Days (ok_Days___init__ T) (hr.mono (by decide)) (by rfl) T.g_Days T.bd_Days___init__ .nil (passes_call (takes_of rfl rfl rfl rfl) (fun _ _ _ _ h => h)) (pa_cons (pv 2) (pa_cons (pe_lc (own := [("n", 3)]) (g := gName 3) (by rfl) sc_Days___or__.nd (pi_range1 (by rfl) T.b_range (pa_cons (pv 2) pa_nil)) (blkOk_by (own := [("n", 3)]) (N := ["self", "other", "period", "n"]) (sc := defScope s_Days___or__) (by decide +kernel)) (fun _ _ _ _ _ => pg_name (i := 3) sc_Days___or__.nd rfl (Or.inl rfl)) (fun _ _ _ _ _ => (pts_one (PW.pt (pw_or (pt_cmpR (op_inO T.sm_Days___contains__ (ok_Days___contains__ T) (hr.mono (by decide)) T.bd_Days___contains__ pass0) (pv 3) (pv 0) (by rfl)) (pw_or1 (pt_cmpR (op_inO T.sm_Days___contains__ (ok_Days___contains__ T) (hr.mono (by decide)) T.bd_Days___contains__ pass0) (pv 3) (pv 1) (by rfl))))))) (fun _ _ _ _ _ => (pv 3))) pa_nil)))))), ?_⟩
    refine body_of (pure_start ex nt) ?_
    walk_at "wi"
    refine w_call mo_cp err_body ?_
    walk_at "wi"
    refine ⟨a, b, t, u, rfl, da, db, fun h7 => ?_, fun h7 d k e n hd => hb h7 d k e n hd 0⟩
    have l1 := lcm_pos_of da.least db.least
    have dv := lcm_dvd_of (t := t) (u := u)
    have h := h h7
    generalize Nat.lcm t.length u.length = L at h h7 l1 dv ⊢
    walk_at "wi"
    refine w_days (EA := bodyX _ E) err_body ?_
    walk_at "w"
    refine w_lcDays (L := L) (pr := fun x => or (inD t x) (inD u x)) (fun R hR => w_var rfl hR) (by omega) (fun _ => rfl) (fun _ => rfl) (fun i k R ek hR => ?_) fun D hD => ?_
    · walk_at "w"
      refine r_hasD (DayAt.ext ek da) ?_
      rw [if_neg Bool.false_ne_true]
      walk_at "w"
      refine ⟨fun h1 => ?_, fun h1 => ?_⟩
      · walk_at "w"
        refine r_hasD (DayAt.ext ek db) ?_
        rw [if_neg Bool.false_ne_true]
        walk_at "w"
        rw [h1] at hR
        exact hR
      · rw [h1] at hR
        exact hR
    · walk_at "w"
      refine ⟨_, _, rfl, make_good l1 h7 dayL_lt (Nat.le_trans (dayL_len _ _) (by omega)) ⟨D, rfl, .inl upd_same⟩ fun x k e n d => ?_⟩
      exact h _ (form_least l1 h7) (inD_dayL l1 fun x => by rw [inD_mod dv.1, inD_mod dv.2]) x k (ext_tr (ext_new hD) e) (free_ext (ext_new hD) n) d 0
theorem ok_Days___sub__ (T : Tx K mg) : FnOk P w K mg base (L2.CX P w) 7 T.f_Days___sub__ T.d_Days___sub__ ["self", "other"] (liftX (bJoin andn T.c_Days T.c_TooMany)) := by
  refine T.F_Days___sub__.okX sc_Days___sub__ (fun vs H Q E h => ?_) (fun cdv A outer s H vs Q E hr h => ?_)
  · obtain ⟨kn, _, _, a, b, t, u, rfl, _⟩ := h
    rfl
  · obtain ⟨kn, ex, nt, a, b, t, u, rfl, da, db, h, hb⟩ := h
    refine ⟨_, (pss_cons (ps_set (i := 2) sc_Days___sub__.nd rfl (by first | exact Or.inl rfl | exact Or.inr rfl) (pe_call (ok_common_period T) (hr.mono (by decide)) (by rfl) T.g_common_period T.F_common_period.kp T.bd_common_period .nil (passes_call (takes_of rfl rfl rfl rfl) (fun _ _ _ _ h => h)) (pa_cons (pv 0) (pa_cons (pv 1) pa_nil))))
       (pss_one (ps_ret (pe_make T.mk_Days (ok_Days___init__ T) (hr.mono (by decide)) (by rfl) T.g_Days T.bd_Days___init__ .nil (passes_call (takes_of rfl rfl rfl rfl) (fun _ _ _ _ h => h)) (pa_cons (pv 2) (pa_cons (pe_lc (own := [("n", 3)]) (g := gName 3) (by rfl) sc_Days___sub__.nd (pi_range1 (by rfl) T.b_range (pa_cons (pv 2) pa_nil)) (blkOk_by (own := [("n", 3)]) (N := ["self", "other", "period", "n"]) (sc := defScope s_Days___sub__) (by decide +kernel)) (fun _ _ _ _ _ => pg_name (i := 3) sc_Days___sub__.nd rfl (Or.inl rfl)) (fun _ _ _ _ _ => (pts_one (PW.pt (pw_and (pt_cmpR (op_inO T.sm_Days___contains__ (ok_Days___contains__ T) (hr.mono (by decide)) T.bd_Days___contains__ pass0) (pv 3) (pv 0) (by rfl)) (pw_and1 (pt_cmpR (op_notInO T.sm_Days___contains__ (ok_Days___contains__ T) (hr.mono (by decide)) T.bd_Days___contains__ pass0) (pv 3) (pv 1) (by rfl))))))) (fun _ _ _ _ _ => (pv 3))) pa_nil)))))), ?_⟩
    refine body_of (pure_start ex nt) ?_
    walk_at "wi"
    refine w_call mo_cp err_body ?_
    walk_at "wi"
    refine ⟨a, b, t, u, rfl, da, db, fun h7 => ?_, fun h7 d k e n hd => hb h7 d k e n hd 0⟩
    have l1 := lcm_pos_of da.least db.least
    have dv := lcm_dvd_of (t := t) (u := u)
    have h := h h7
    generalize Nat.lcm t.length u.length = L at h h7 l1 dv ⊢
    walk_at "wi"
    refine w_days (EA := bodyX _ E) err_body ?_
    walk_at "w"
    refine w_lcDays (L := L) (pr := fun x => andn (inD t x) (inD u x)) (fun R hR => w_var rfl hR) (by omega) (fun _ => rfl) (fun _ => rfl) (fun i k R ek hR => ?_) fun D hD => ?_
    · walk_at "w"
      refine r_hasD (DayAt.ext ek da) ?_
      rw [if_neg Bool.false_ne_true]
      walk_at "w"
      refine ⟨fun h1 => ?_, fun h1 => ?_⟩
      · walk_at "w"
        refine r_hasD (DayAt.ext ek db) ?_
        rw [if_pos rfl]
        walk_at "w"
        rw [h1] at hR
        exact hR
      · rw [h1] at hR
        exact hR
    · walk_at "w"
      refine ⟨_, _, rfl, make_good l1 h7 dayL_lt (Nat.le_trans (dayL_len _ _) (by omega)) ⟨D, rfl, .inl upd_same⟩ fun x k e n d => ?_⟩
      exact h _ (form_least l1 h7) (inD_dayL l1 fun x => by rw [inD_mod dv.1, inD_mod dv.2]) x k (ext_tr (ext_new hD) e) (free_ext (ext_new hD) n) d 0
theorem ok_Days___invert__ (T : Tx K mg) : FnOk P w K mg base CX0 7 T.f_Days___invert__ T.d_Days___invert__ ["self"] (liftX (bInv T.c_Days)) := by
  refine T.F_Days___invert__.ok sc_Days___invert__ (fun vs H Q E h => ?_) (fun cdv A outer s H vs Q E hr h => ?_)
  · obtain ⟨kn, _, _, a, t, rfl, _⟩ := h
    rfl
  · obtain ⟨kn, ex, nt, a, t, rfl, da, h⟩ := h
    refine ⟨_, (pss_one (ps_ret (pe_make T.mk_Days (ok_Days___init__ T) (hr.mono (by decide)) (by rfl) T.g_Days T.bd_Days___init__ .nil passL (pa_cons (pe_fld (pv 0) rfl) (pa_cons (pe_lc (own := [("n", 1)]) (g := gName 1) (by rfl) sc_Days___invert__.nd (pi_range1 (by rfl) T.b_range (pa_cons (pe_fld (pv 0) rfl) pa_nil)) (blkOk_by (own := [("n", 1)]) (N := ["self", "n"]) (sc := defScope s_Days___invert__) (by decide +kernel)) (fun _ _ _ _ _ => pg_name (i := 1) sc_Days___invert__.nd rfl (Or.inl rfl)) (fun _ _ _ _ _ => (pts_one (pt_cmpR (op_notInO T.sm_Days___contains__ (ok_Days___contains__ T) (hr.mono (by decide)) T.bd_Days___contains__ pass0) (pv 1) (pv 0) (by rfl)))) (fun _ _ _ _ _ => (pv 1))) pa_nil))))), ?_⟩
    refine body_of (pure_start ex nt) ?_
    have cL := T.cl_Days
    have l1 := da.least.pos
    have h7 := da.least.le
    obtain ⟨dx, q, z1, z2⟩ := da.at_
    walk_at "wi"
    refine w_days (B := T.c_BadDays) (EA := fun _ _ _ _ => False) err_no ?_
    walk_at "w"
    refine w_fld (w_var rfl ⟨_, _, _, _, _, rfl, z1, cL, T.na_Days__period, rfl, ?_⟩)
    walk_at "w"
    refine w_lcDays (L := t.length) (pr := fun x => !inD t x) (fun R hR => w_fld (w_var rfl ⟨_, _, _, _, _, rfl, z1, cL, T.na_Days__period, rfl, hR⟩)) (by omega) (fun _ => rfl) (fun _ => rfl) (fun i k R ek hR => ?_) fun D hD => ?_
    · walk_at "w"
      refine r_hasD (DayAt.ext ek da) ?_
      rw [if_pos rfl]
      exact ⟨_, rfl, hR⟩
    · walk_at "w"
      refine ⟨_, _, rfl, make_good l1 h7 dayL_lt (Nat.le_trans (dayL_len _ _) (by omega)) ⟨D, rfl, .inl upd_same⟩ fun x k e n d => ?_⟩
      exact h _ (form_least l1 h7) (inD_dayL l1 fun x => by rw [inD_mod (Nat.dvd_refl _)]) x k (ext_tr (ext_new hD) e) (free_ext (ext_new hD) n) d 0
theorem ok_Days___rshift__ (T : Tx K mg) : FnOk P w K mg base (L2.CX P w) 7 T.f_Days___rshift__ T.d_Days___rshift__ ["self", "other"] (liftX (bSh T.c_Days 1)) := by
  refine T.F_Days___rshift__.okX sc_Days___rshift__ (fun vs H Q E h => ?_) (fun cdv A outer s H vs Q E hr h => ?_)
  · obtain ⟨kn, _, _, a, t, k, rfl, _⟩ := h
    rfl
  · obtain ⟨kn, ex, nt, a, t, k, rfl, da, h⟩ := h
    refine ⟨_, (pss_one (ps_ret (pe_make T.mk_Days (ok_Days___init__ T) (hr.mono (by decide)) (by rfl) T.g_Days T.bd_Days___init__ .nil (passes_call (takes_of rfl rfl rfl rfl) (fun _ _ _ _ h => h)) (pa_cons (show PE _ _ (tFld K (tVar 0) "_period") from pe_fld (pv 0) rfl) (pa_cons (pe_lc (own := [("n", 2)]) (g := gName 2) (by rfl) sc_Days___rshift__.nd (pi_tup (pe_fld (pv 0) rfl)) (blkOk_by (own := [("n", 2)]) (N := ["self", "other", "n"]) (sc := defScope s_Days___rshift__) (by decide +kernel)) (fun _ _ _ _ _ => pg_name (i := 2) sc_Days___rshift__.nd rfl (Or.inl rfl)) (fun _ _ _ _ _ => pts_nil) (fun _ _ _ _ _ => (pe_op op_mod (pe_op op_add (pv 2) (pv 1)) (show PE _ _ (tFld K (tVar 0) "_period") from pe_fld (pv 0) rfl)))) pa_nil))))), ?_⟩
    refine body_of (pure_start ex nt) ?_
    have cL := T.cl_Days
    have l1 := da.least.pos
    have h7 := da.least.le
    have il := idx_len t
    obtain ⟨dx, q, z1, z2⟩ := da.at_
    walk_at "wi"
    refine w_days (EA := bodyX _ E) err_body ?_
    walk_at "w"
    refine w_fld (w_var rfl ⟨_, _, _, _, _, rfl, z1, cL, T.na_Days__period, rfl, ?_⟩)
    walk_at "w"
    refine w_lcP (i_tup (w_fld (w_var rfl ⟨_, _, _, _, _, rfl, z1, cL, T.na_Days__rests, rfl, ?_⟩)))
    refine ⟨q, _, rfl, z2, ?_⟩
    refine ⟨_, _, (fun v => match v with | .int i => .int ((i + k) % (t.length : Int)) | v => v), fun _ => true, gives_tup, by rw [List.length_map]; omega, fun k e => e _ _ z2, fun x hx k' ek => ?_, fun D hD => ?_⟩
    · obtain ⟨i, _, rfl⟩ := List.mem_map.1 hx
      refine g_name ⟨rfl, rfl, rfl, w_yesT ⟨rfl, rfl, rfl, fun _ => ?_⟩⟩
      walk_at "w"
      refine w_fld (w_var rfl ⟨_, _, _, _, _, rfl, ek _ _ z1, cL, T.na_Days__period, rfl, ?_⟩)
      refine r_I (by omega) ?_
      exact ⟨rfl, rfl, rfl⟩
    · have e : List.map (fun v => match v with | .int i => .int ((i + k) % (t.length : Int)) | v => v) (List.filter (fun _ => true) (natV (idx t))) = natV ((idx t).map fun (n : Nat) => (((n : Int) + k) % (t.length : Int)).toNat) := by
        rw [List.filter_eq_self.2 (fun _ _ => rfl)]
        unfold natV
        rw [List.map_map, List.map_map]
        apply List.map_congr_left
        intro n _
        have := Int.emod_nonneg ((n : Int) + k) (show ((t.length : Nat) : Int) ≠ 0 by omega)
        show V.int (((n : Int) + k) % (t.length : Int)) = V.int _
        congr 1
        show _ = (((((n : Int) + k) % (t.length : Int)).toNat : Nat) : Int)
        omega
      rw [e]
      walk_at "w"
      have lt : ∀ y ∈ (idx t).map (fun (n : Nat) => (((n : Int) + k) % (t.length : Int)).toNat), y < t.length := fun y hy => by
        obtain ⟨n, _, rfl⟩ := List.mem_map.1 hy
        have := Int.emod_nonneg ((n : Int) + k) (show ((t.length : Nat) : Int) ≠ 0 by omega)
        have := Int.emod_lt_of_pos ((n : Int) + k) (show (0 : Int) < ((t.length : Nat) : Int) by omega)
        omega
      refine ⟨_, _, rfl, make_good l1 h7 lt (by rw [List.length_map]; omega) ⟨D, rfl, .inl upd_same⟩ fun x k' e n d => ?_⟩
      refine h _ (form_least l1 h7) (fun y => ?_) x k' (ext_tr (ext_new hD) e) (free_ext (ext_new hD) n) d 0
      rw [inD_form l1, Bool.eq_iff_iff, decide_eq_true_eq, List.mem_map, Int.one_mul]
      have y0 := Int.emod_nonneg y (show ((t.length : Nat) : Int) ≠ 0 by omega)
      have y1 := Int.emod_lt_of_pos y (show (0 : Int) < ((t.length : Nat) : Int) by omega)
      have s0 := Int.emod_nonneg (y - k) (show ((t.length : Nat) : Int) ≠ 0 by omega)
      have s1 := Int.emod_lt_of_pos (y - k) (show (0 : Int) < ((t.length : Nat) : Int) by omega)
      constructor
      · rintro ⟨m, hm, hr⟩
        obtain ⟨m1, m2⟩ := mem_idx.1 hm
        have r0 := Int.emod_nonneg ((m : Int) + k) (show ((t.length : Nat) : Int) ≠ 0 by omega)
        have hr : ((m : Int) + k) % (t.length : Int) = y % (t.length : Int) := by omega
        rw [← inD_nat m1] at m2
        rw [← m2]
        refine inD_eq ?_
        rw [Int.sub_emod, ← hr, ← Int.sub_emod, Int.add_sub_cancel]
      · intro hy
        refine ⟨((y - k) % (t.length : Int)).toNat, mem_idx.2 ⟨by omega, hy⟩, ?_⟩
        have : ((((y - k) % (t.length : Int)).toNat : Nat) : Int) = (y - k) % (t.length : Int) := Int.toNat_of_nonneg s0
        rw [this, Int.emod_add_emod, Int.sub_add_cancel]
theorem ok_Days___lshift__ (T : Tx K mg) : FnOk P w K mg base (L2.CX P w) 9 T.f_Days___lshift__ T.d_Days___lshift__ ["self", "other"] (liftX (bSh T.c_Days (-1))) := by
  refine T.F_Days___lshift__.okX sc_Days___lshift__ (fun vs H Q E h => ?_) (fun cdv A outer s H vs Q E hr h => ?_)
  · obtain ⟨kn, _, _, a, t, k, rfl, _⟩ := h
    rfl
  · obtain ⟨kn, ex, nt, a, t, k, rfl, da, h⟩ := h
    refine ⟨_, (pss_one (ps_ret (pe_op (op_own T.op_Days_rshift (ok_Days___rshift__ T) (hr.mono (by decide)) T.bd_Days___rshift__ (passes_call (takes_of rfl rfl rfl rfl) (fun _ _ _ _ h => h))) (pv 0) (pe_un un_neg (pv 1))))), ?_⟩
    refine body_of (pure_start ex nt) ?_
    obtain ⟨dx, q, z1, z2⟩ := da.at_
    walk_at "wi"
    refine r_own mo_sh err_body z1 (.base (.int _)) (ot_int_shr T.si_Days) ?_
    refine ⟨a, t, -k, rfl, da, fun r l i => ?_⟩
    exact fun x k' e n d => h r l (fun x => by rw [i]; congr 1; omega) x k' e n d 0
theorem ok_Days___le__ (T : Tx K mg) : FnOk P w K mg base CX0 4 T.f_Days___le__ T.d_Days___le__ ["self", "other"] (liftX (bCmp T.c_Days subB)) := by
  refine T.F_Days___le__.ok sc_Days___le__ (fun vs H Q E h => ?_) (fun cdv A outer s H vs Q E hr h => ?_)
  · obtain ⟨kn, _, _, a, b, t, u, rfl, _⟩ := h
    rfl
  · obtain ⟨kn, ex, nt, a, b, t, u, rfl, da, db, h⟩ := h
    refine ⟨_, (pss_one (ps_ret (pe_callB (c_allQ rfl) (by rfl) T.b_all (by decide +kernel) (pa_cons (pe_lc (own := [("n", 2)]) (g := gName 2) (by rfl) sc_Days___le__.nd (pi_range1 (by rfl) T.b_range (pa_cons (pe_callMB cr_lcm (by rfl) T.g_lcm (pa_cons (pe_fld (pv 0) rfl) (pa_cons (pe_fld (pv 1) rfl) pa_nil))) pa_nil)) (blkOk_by (own := [("n", 2)]) (N := ["self", "other", "n"]) (sc := defScope s_Days___le__) (by decide +kernel)) (fun _ _ _ _ _ => pg_name (i := 2) sc_Days___le__.nd rfl (Or.inl rfl)) (fun _ _ _ _ _ => (pts_one (pt_cmpR (op_inO T.sm_Days___contains__ (ok_Days___contains__ T) (hr.mono (by decide)) T.bd_Days___contains__ pass0) (pv 2) (pv 0) (by rfl)))) (fun _ _ _ _ _ => (pe_cmpR (op_inO T.sm_Days___contains__ (ok_Days___contains__ T) (hr.mono (by decide)) T.bd_Days___contains__ pass0) (pv 2) (pv 1) (by rfl)))) pa_nil)))), ?_⟩
    refine body_of (pure_start ex nt) ?_
    have cL := T.cl_Days
    have f2 := da.least.le
    have g2 := db.least.le
    obtain ⟨dx, q, z1, z2⟩ := da.at_
    obtain ⟨dx', q', y1, y2⟩ := db.at_
    have ll : Nat.lcm t.length u.length ≤ 49 := by
      unfold Nat.lcm
      exact Nat.le_trans (Nat.div_le_self _ _) (Nat.mul_le_mul f2 g2)
    walk_at "wi"
    refine w_lcP (i_rng1 ?_)
    walk_at "w"
    refine w_fld (w_var rfl ⟨_, _, _, _, _, rfl, z1, cL, T.na_Days__period, rfl, ?_⟩)
    walk_at "w"
    refine w_fld (w_var rfl ⟨_, _, _, _, _, rfl, y1, cL, T.na_Days__period, rfl, ?_⟩)
    walk_at "w"
    refine r_lcm (by omega) (by omega) ?_
    walk_at "w"
    refine ⟨by omega, by omega, ?_⟩
    rw [Int.toNat_natCast]
    refine ⟨_, (fun _ => True), (fun v => match v with | .int i => .bl (inD u i) | v => v), (fun v => match v with | .int i => inD t i | _ => false), gives_rng, by rw [List.length_map, List.length_range]; omega, fun _ _ => trivial, fun x hx k ek => ?_, fun D hD => ?_⟩
    · obtain ⟨i, hm, rfl⟩ := List.mem_map.1 hx
      rw [Int.zero_add]
      refine g_name ⟨rfl, rfl, rfl, ?_⟩
      walk_at "w"
      refine r_hasD (DayAt.ext ek da) ?_
      refine ⟨_, rfl, rfl, rfl, rfl, fun _ => ?_⟩
      walk_at "w"
      refine r_hasD (DayAt.ext ek db) ?_
      exact ⟨rfl, rfl, rfl⟩
    · walk_at "w"
      have e : List.map (fun v => match v with | .int i => .bl (inD u i) | v => v) (List.filter (fun v => match v with | .int i => inD t i | _ => false) ((List.range (Nat.lcm t.length u.length)).map fun (i : Nat) => V.int (0 + (i : Int)))) = (((List.range (Nat.lcm t.length u.length)).filter fun (n : Nat) => inD t (n : Int)).map fun (n : Nat) => inD u (n : Int)).map V.bl := by
        rw [rng_filter (P := fun i => inD t (i : Int)) (fun i hi => by rw [Int.zero_add])]
        unfold natV
        rw [List.map_map, List.map_map]
        rfl
      rw [e]
      refine r_allQ upd_same ?_
      have e2 : ((((List.range (Nat.lcm t.length u.length)).filter fun (n : Nat) => inD t (n : Int)).map fun (n : Nat) => inD u (n : Int)).all id) = subB t u := by
        unfold subB
        rw [List.all_map, List.all_filter]
        rfl
      rw [e2]
      exact h _ (ext_new hD) 0
theorem r_leD (T : Tx K mg) {c : Cw} {kn : Hp} {n : Nat} {E : XK} {Q : V → Hp → Nat → Prop} {f : List Bool → List Bool → Bool} {a b : Addr} {t u : List Bool} (da : DayAt T.c_Days kn a t) (db : DayAt T.c_Days kn b u) (q : ∀ k, Ext kn k → Q (.bl (f t u)) k n) : W c (rCmpO K T.c_Days (liftX (bCmp T.c_Days f)) E (.ref a) (.ref b)) kn n Q := by
  obtain ⟨dx, p, z1, z2⟩ := da.at_
  obtain ⟨dx', p', y1, y2⟩ := db.at_
  exact r_cmpO (EA := fun _ _ _ _ => False) mo_cmp err_no z1 (T.own_Days.ty y1) nf_self ⟨a, b, t, u, rfl, da, db, q⟩
end
end D

end NN

namespace NN
open PySem PySem.Spec PyProof.Rows L2 LamX AW ClX
open Tx1 Ln
namespace S
/-! ### the stay -/
def isDay (i : Int) : Prop := -lastDay ≤ i ∧ i ≤ lastDay
def NotDay (K : PySem.W.Frag) (kn : Hp) (x : V) : Prop := (∃ i, x = .int i ∧ ¬ isDay i) ∨ Odd K kn x
abbrev stayF (f e : Int) (q : Addr) : List (Str × V) := [("first", .int f), ("after", .int e), ("_nights", .ref q)]
structure StayAt (C : Addr) (kn : Hp) (s : Addr) (f e : Int) : Prop where
  at_ : ∃ dx q, kn s = some (.ins C dx (stayF f e q)) ∧ kn q = some (.tup (rgV f e))
  d1 : isDay f
  d2 : isDay e
  lt : f < e
  most : e ≤ f + 400
abbrev xdPart (kn : Hp) (d : Addr) (p : Str) : Hp := upd kn d (.xd [("part", .str p)])
def bInit (K : PySem.W.Frag) (C B : Addr) : List V → Hp → AK → AXK → Prop := fun vs kn Q E => ∃ a dx x y, vs = [.ref a, x, y] ∧ kn a = some (.ins C dx []) ∧
  ((∃ f e, x = .int f ∧ y = .int e ∧ isDay f ∧ isDay e ∧ f < e ∧ e ≤ f + 400 ∧ ∀ q, kn q = none → Q .non (upd (upd kn q (.tup (rgV f e))) a (.ins C dx (stayF f e q)))) ∨
   (NotDay K kn x ∧ ∀ d, kn d = none → E (.ref B) (some d) (xdPart kn d "first")) ∨
   (∃ f, x = .int f ∧ isDay f ∧ (NotDay K kn y ∨ ∃ e, y = .int e ∧ isDay e ∧ ¬(f < e ∧ e ≤ f + 400)) ∧ ∀ d, kn d = none → E (.ref B) (some d) (xdPart kn d "after")))
section
variable {K : PySem.W.Frag} {C B : Addr}
theorem rg_day {f e : Int} (df : isDay f) (de : isDay e) (l : e ≤ f + 400) : RgOk f e := by
  have h1 : -999999999999 ≤ f ∧ f ≤ 999999999999 := df
  have h2 : -999999999999 ≤ e ∧ e ≤ 999999999999 := de
  exact ⟨by omega, by omega, by omega, by omega, by omega⟩
theorem mo_init : MonoX (bInit K C B) := by
  rintro vs kn Q R E F h1 h2 ⟨a, dx, x, y, e, ha, ⟨f, e', b1, b2, b3, b4, b5, b6, h⟩ | ⟨b, h⟩ | ⟨f, b1, b2, b3, h⟩⟩
  · exact ⟨a, dx, x, y, e, ha, .inl ⟨f, e', b1, b2, b3, b4, b5, b6, fun q hq => h1 _ _ (h q hq)⟩⟩
  · exact ⟨a, dx, x, y, e, ha, .inr (.inl ⟨b, fun d hd => h2 _ _ _ (h d hd)⟩)⟩
  · exact ⟨a, dx, x, y, e, ha, .inr (.inr ⟨f, b1, b2, b3, fun d hd => h2 _ _ _ (h d hd)⟩)⟩
theorem upd3 {kn : Hp} {a q : Addr} {o1 o2 o3 o4 : HO} : upd (upd (upd (upd kn a o1) a o2) q o3) a o4 = upd (upd kn q o3) a o4 := by
  funext x
  by_cases h1 : x = a
  · rw [h1, upd_same, upd_same]
  · rw [upd_ne h1, upd_ne h1]
    by_cases h2 : x = q
    · rw [h2, upd_same, upd_same]
    · rw [upd_ne h2, upd_ne h1, upd_ne h1, upd_ne h2]
end
section
variable {P : Program} {w : World} {K : PySem.W.Frag} {mg : Str → Option Value} {base : Heap}
theorem ok_BadStay___init__ (T : Tx K mg) : FnOk P w K mg base CX0 1 T.f_BadStay___init__ T.d_BadStay___init__ ["self", "part"] (spX1 K "part") := by
  refine T.F_BadStay___init__.ok sc_BadStay___init__ (fun vs H Q E h => ?_) (fun cdv A outer s H vs Q E hr h => ?_)
  · obtain ⟨a, C, y, rfl, _⟩ := h
    rfl
  · obtain ⟨a, C, y, rfl, oc, hf, ha, h⟩ := h
    refine ⟨_, (pss_one (ps_ost (pv 0) (pv 1))), ?_⟩
    refine ⟨_, rfl, _, rfl, a, C, rfl, oc, hf, .inl ⟨ha, h⟩⟩
theorem w_day {kn : Hp} {x : V} {Q : AK} {E : AXK} (h : (∃ i, x = .int i ∧ isDay i ∧ Q (.bl true) kn) ∨ (NotDay K kn x ∧ Q (.bl false) kn)) : bDay K [x] kn Q E := by
  rcases h with ⟨i, e, d, q⟩ | ⟨⟨i, e, d⟩ | o, q⟩
  · refine ⟨x, rfl, .inl ⟨i, e, ?_⟩⟩
    rw [decide_eq_true d.1, decide_eq_true d.2]
    exact q
  · refine ⟨x, rfl, .inl ⟨i, e, ?_⟩⟩
    have z : (decide (-lastDay ≤ i) && decide (i ≤ lastDay)) = false := by
      cases y : (decide (-lastDay ≤ i) && decide (i ≤ lastDay)) with
      | false => rfl
      | true =>
        rw [Bool.and_eq_true] at y
        exact absurd ⟨of_decide_eq_true y.1, of_decide_eq_true y.2⟩ d
    rw [z]
    exact q
  · exact ⟨x, rfl, .inr ⟨o, q⟩⟩
theorem ok_Stay___init__ (T : Tx K mg) : FnOk P w K mg base (L2.CX P w) 4 T.f_Stay___init__ T.d_Stay___init__ ["self", "first", "after"] (liftX (bInit K T.c_Stay T.c_BadStay)) := by
  refine T.F_Stay___init__.okX sc_Stay___init__ (fun vs H Q E h => ?_) (fun cdv A outer s H vs Q E hr h => ?_)
  · obtain ⟨kn, _, _, a, dx, x, y, rfl, _⟩ := h
    rfl
  · obtain ⟨kn, ex, nt, a, dx, x, y, rfl, ha, h⟩ := h
    refine ⟨_, (pss_cons (ps_if (pt_not (pt_val (pe_call (ok_is_day T) (hr.mono (by decide)) (by rfl) T.g_is_day T.F_is_day.kp T.bd_is_day .nil pass0 (pa_cons (pv 1) pa_nil))))
       (pss_one (ps_raise rfl (takes_of rfl rfl rfl rfl) (pmk_oex T.x_BadStay T.fi_BadStay___init__ T.ti_BadStay (ok_BadStay___init__ T) (hr.mono (by decide)) T.bd_BadStay___init__ .nil pass0 (by rfl) T.g_BadStay (pa_cons pe_str pa_nil))))
       pss_nil)
       (pss_cons (ps_if (PW.pt (pw_or (pt_not (pt_val (pe_call (ok_is_day T) (hr.mono (by decide)) (by rfl) T.g_is_day T.F_is_day.kp T.bd_is_day .nil pass0 (pa_cons (pv 2) pa_nil)))) (pw_or1 (pt_not (pt_chain op_lt op_le (pv 1) (pv 2) (pe_op op_add (pv 1) (pe_cval (pe_glob (v := .ref T.c_Stay) (by rfl) T.g_Stay rfl))))))))
       (pss_one (ps_raise rfl (takes_of rfl rfl rfl rfl) (pmk_oex T.x_BadStay T.fi_BadStay___init__ T.ti_BadStay (ok_BadStay___init__ T) (hr.mono (by decide)) T.bd_BadStay___init__ .nil pass0 (by rfl) T.g_BadStay (pa_cons pe_str pa_nil))))
       pss_nil)
       (pss_cons (ps_fld (pv 0) (pv 1) rfl)
       (pss_cons (ps_fld (pv 0) (pv 2) rfl)
       (pss_one (ps_fld (pv 0) (pe_tupRg rfl (by rfl) T.b_tuple (prg_2 (by rfl) T.b_range (pv 1) (pv 2))) rfl)))))), ?_⟩
    refine body_of (pure_start ex nt) ?_
    walk_at "wi"
    refine w_call mo_day err_no ?_
    walk_at "wi"
    refine w_day ?_
    obtain ⟨mu, hmu⟩ := T.cv_Stay_MOST
    rcases h with ⟨f, e, rfl, rfl, df, de, l1, l2, h⟩ | ⟨nd, h⟩ | ⟨f, rfl, df, nd, h⟩
    · refine .inl ⟨f, rfl, df, ?_⟩
      walk_at "wi"
      refine w_call mo_day err_no ?_
      walk_at "wi"
      refine w_day (.inl ⟨e, rfl, de, ?_⟩)
      walk_at "wi"
      refine ⟨fun hb => ?_, fun hb => absurd (decide_eq_true l1) (by rw [hb]; exact Bool.false_ne_true)⟩
      walk_at "wi"
      refine ⟨_, _, _, _, rfl, T.cr_Stay, hmu, ?_⟩
      walk_at "wi"
      rw [decide_eq_true l2]
      walk_at "wi"
      refine ⟨_, _, _, _, rfl, ha, T.cl_Stay, T.na_Stay_first, by decide, ?_⟩
      walk_at "wi"
      refine ⟨_, _, _, _, rfl, upd_same, T.cl_Stay, T.na_Stay_after, (show 1 < 1000 by decide), ?_⟩
      walk_at "wi"
      refine ⟨_, _, rfl, rfl, (rg_day df de l2), fun q hq => ?_⟩
      walk_at "wi"
      refine ⟨_, _, _, _, rfl, keep2 (ne_of_none upd_same hq) upd_same, T.cl_Stay, T.na_Stay__nights, (show 2 < 1000 by decide), ?_⟩
      have hq2 : kn q = none := by
        by_cases z : q = a
        · rw [z, upd_same] at hq; cases hq
        · rw [upd_ne z, upd_ne z] at hq; exact hq
      rw [upd3]
      exact h q hq2 0
    · refine .inr ⟨nd, ?_⟩
      walk_at "wi"
      refine s_raise1 T.x_BadStay T.nx_BadStay_part err_body ?_
      walk_at "wi"
      exact fun d hd => h d hd 0
    · refine .inl ⟨f, rfl, df, ?_⟩
      walk_at "wi"
      refine w_call mo_day err_no ?_
      walk_at "wi"
      refine w_day ?_
      rcases nd with nd | ⟨e, rfl, de, ne⟩
      · refine .inr ⟨nd, ?_⟩
        walk_at "wi"
        refine s_raise1 T.x_BadStay T.nx_BadStay_part err_body ?_
        walk_at "wi"
        exact fun d hd => h d hd 0
      · refine .inl ⟨e, rfl, de, ?_⟩
        walk_at "wi"
        refine ⟨fun hb => ?_, fun hb => ?_⟩
        · walk_at "wi"
          refine ⟨_, _, _, _, rfl, T.cr_Stay, hmu, ?_⟩
          walk_at "wi"
          rw [decide_eq_false (fun z => ne ⟨of_decide_eq_true hb, z⟩)]
          walk_at "wi"
          refine s_raise1 T.x_BadStay T.nx_BadStay_part err_body ?_
          walk_at "wi"
          exact fun d hd => h d hd 0
        · walk_at "wi"
          refine s_raise1 T.x_BadStay T.nx_BadStay_part err_body ?_
          walk_at "wi"
          exact fun d hd => h d hd 0
end
/-! ### the stay's methods -/
abbrev NewS (C : Addr) (kn : Hp) (f e : Int) (Q : AK) : Prop := ∀ x kn', Ext kn kn' → kn x = none → StayAt C kn' x f e → Q (.ref x) kn'
abbrev BadS (B : Addr) (kn : Hp) (p : Str) (E : AXK) : Prop := ∀ d kn', Ext kn kn' → kn d = none → kn' d = some (.xd [("part", .str p)]) → E (.ref B) (some d) kn'
def MakeOr (C B : Addr) (kn : Hp) (f e : Int) (Q : AK) (E : AXK) : Prop :=
  (isDay f ∧ isDay e ∧ f < e ∧ e ≤ f + 400 ∧ NewS C kn f e Q) ∨ (¬ isDay f ∧ BadS B kn "first" E) ∨ (isDay f ∧ (¬ isDay e ∨ (isDay e ∧ ¬(f < e ∧ e ≤ f + 400))) ∧ BadS B kn "after" E)
theorem mo_make {C B : Addr} {kn : Hp} {f e : Int} {Q R : AK} {E F : AXK} (h1 : ∀ v k, Q v k → R v k) (h2 : ∀ cls d k, E cls d k → F cls d k) (h : MakeOr C B kn f e Q E) : MakeOr C B kn f e R F := by
  rcases h with ⟨a, b, c, d, h⟩ | ⟨a, h⟩ | ⟨a, b, h⟩
  · exact .inl ⟨a, b, c, d, fun x k z1 z2 z3 => h1 _ _ (h x k z1 z2 z3)⟩
  · exact .inr (.inl ⟨a, fun x k z1 z2 z3 => h2 _ _ _ (h x k z1 z2 z3)⟩)
  · exact .inr (.inr ⟨a, b, fun x k z1 z2 z3 => h2 _ _ _ (h x k z1 z2 z3)⟩)
theorem StayAt.ext {C : Addr} {kn kn' : Hp} {s : Addr} {f e : Int} (x : Ext kn kn') (h : StayAt C kn s f e) : StayAt C kn' s f e := by
  obtain ⟨⟨dx, q, a, b⟩, c1, c2, c3, c4⟩ := h
  exact ⟨⟨dx, q, x _ _ a, x _ _ b⟩, c1, c2, c3, c4⟩
/-- Stay(f, e) -/
theorem w_stay {K : PySem.W.Frag} {c : Cw} {kn : Hp} {n : Nat} {σ : L2.St} {Q : V → Hp → Nat → Prop} {E : XK} {EA : EAK} {C B : Addr} {t : TA} (hE : ErrOk c EA E)
    (h : W c (t σ) kn n fun vs kn1 n1 => ∃ f e, vs = [.int f, .int e] ∧ MakeOr C B kn1 f e (fun v k => Q v k n1) (fun cls d k => EA cls d k n1)) : W c (tMake C (liftX (bInit K C B)) [] E t σ) kn n Q := by
  refine w_make mo_init hE (h.mono fun vs kn1 n1 hv => ?_)
  obtain ⟨f, e, rfl, hv⟩ := hv
  intro x dx hx hdx hne
  have hx2 : upd kn1 dx (.own x) x = none := by rw [upd_ne (Ne.symm hne)]; exact hx
  have ex : Ext kn1 (upd (upd kn1 dx (.own x)) x (.ins C dx [])) := ext_tr (ext_new hdx) (ext_new hx2)
  refine ⟨x, dx, _, _, rfl, upd_same, ?_⟩
  rcases hv with ⟨a, b, l, m, h⟩ | ⟨a, h⟩ | ⟨a, b, h⟩
  · refine .inl ⟨f, e, rfl, rfl, a, b, l, m, fun q hq => ⟨rfl, h x _ ?_ hx ⟨⟨dx, q, upd_same, ?_⟩, a, b, l, m⟩⟩⟩
    · intro y o hy
      have y1 : y ≠ x := fun z => by rw [z, hx] at hy; cases hy
      have y2 : y ≠ dx := fun z => by rw [z, hdx] at hy; cases hy
      have y3 : y ≠ q := fun z => by rw [← z, upd_ne y1, upd_ne y2, hy] at hq; cases hq
      rw [upd_ne y1, upd_ne y3, upd_ne y1, upd_ne y2]
      exact hy
    · have y1 : q ≠ x := fun z => by rw [z, upd_same] at hq; cases hq
      rw [upd_ne y1, upd_same]
  · refine .inr (.inl ⟨.inl ⟨f, rfl, a⟩, fun d hd => h d _ (ext_tr ex (ext_new hd)) ?_ upd_same⟩)
    cases z : kn1 d with
    | none => rfl
    | some o => rw [ex _ _ z] at hd; cases hd
  · refine .inr (.inr ⟨f, rfl, a, ?_, fun d hd => h d _ (ext_tr ex (ext_new hd)) ?_ upd_same⟩)
    · rcases b with b | b
      · exact .inl (.inl ⟨e, rfl, b⟩)
      · exact .inr ⟨e, rfl, b⟩
    · cases z : kn1 d with
      | none => rfl
      | some o => rw [ex _ _ z] at hd; cases hd
/-- self.first, self.after, self._nights -/
theorem w_first {K : PySem.W.Frag} {c : Cw} {kn : Hp} {n i : Nat} {σ : L2.St} {Q : V → Hp → Nat → Prop} {C s : Addr} {f e : Int} (cl : Cls K C) (na : NoAttr K C "first") (hv : σ[i]? = some (some (.ref s))) (h : StayAt C kn s f e) (q : Q (.int f) kn n) : W c (tFld K (tVar i) "first" σ) kn n Q := by
  obtain ⟨⟨dx, p, a, b⟩, _⟩ := h
  exact w_fld (w_var hv ⟨_, _, _, _, _, rfl, a, cl, na, rfl, q⟩)
theorem w_after {K : PySem.W.Frag} {c : Cw} {kn : Hp} {n i : Nat} {σ : L2.St} {Q : V → Hp → Nat → Prop} {C s : Addr} {f e : Int} (cl : Cls K C) (na : NoAttr K C "after") (hv : σ[i]? = some (some (.ref s))) (h : StayAt C kn s f e) (q : Q (.int e) kn n) : W c (tFld K (tVar i) "after" σ) kn n Q := by
  obtain ⟨⟨dx, p, a, b⟩, _⟩ := h
  exact w_fld (w_var hv ⟨_, _, _, _, _, rfl, a, cl, na, rfl, q⟩)
theorem w_nights {K : PySem.W.Frag} {c : Cw} {kn : Hp} {n i : Nat} {σ : L2.St} {Q : V → Hp → Nat → Prop} {C s : Addr} {f e : Int} (cl : Cls K C) (na : NoAttr K C "_nights") (hv : σ[i]? = some (some (.ref s))) (h : StayAt C kn s f e) (q : ∀ p, kn p = some (.tup (rgV f e)) → Q (.ref p) kn n) : W c (tFld K (tVar i) "_nights" σ) kn n Q := by
  obtain ⟨⟨dx, p, a, b⟩, _⟩ := h
  exact w_fld (w_var hv ⟨_, _, _, _, _, rfl, a, cl, na, rfl, q p b⟩)
-- a stay that is known
local macro_rules | `(tactic| walk_at "st") => `(tactic| first
  | assumption
  | ((with_reducible refine' StayAt.ext ?h1 ?h2); (case h1 => assumption); (case h2 => walk_at "st"))
  | ((with_reducible refine' StayAt.ext ?h1 ?h2); (case h1 => exact ext_new (by assumption)); (case h2 => walk_at "st")))
local macro_rules | `(tactic| walk_at "w2") => `(tactic| first
  | ((with_reducible refine' w_first ?h1 ?h2 ?h3 ?h4 ?_); (case h3 => rfl); (case h4 => walk_at "st"); (case h1 => assumption); (case h2 => assumption))
  | ((with_reducible refine' w_after ?h1 ?h2 ?h3 ?h4 ?_); (case h3 => rfl); (case h4 => walk_at "st"); (case h1 => assumption); (case h2 => assumption))
  | ((with_reducible refine' w_nights ?h1 ?h2 ?h3 ?h4 ?_); (case h3 => rfl); (case h4 => walk_at "st"); (case h1 => assumption); (case h2 => assumption)))
local macro_rules | `(tactic| walk_at "w") => `(tactic| repeat (first | walk_at "w1" | walk_at "w2" | dsimp only))
local macro_rules | `(tactic| walk_at "wi") => `(tactic| repeat (first | walk_at "w1" | walk_at "w2" | with_reducible refine' s_if ?_ | dsimp only))

def bLen (C : Addr) : List V → Hp → AK → AXK → Prop := fun vs kn Q _ => ∃ s f e, vs = [.ref s] ∧ StayAt C kn s f e ∧ Q (.int (e - f)) kn
def bMeets (C : Addr) : List V → Hp → AK → AXK → Prop := fun vs kn Q _ => ∃ s f e s' f' e', vs = [.ref s, .ref s'] ∧ StayAt C kn s f e ∧ StayAt C kn s' f' e' ∧ Q (.bl (decide (f < e') && decide (f' < e))) kn
def bRight (C B : Addr) : List V → Hp → AK → AXK → Prop := fun vs kn Q E => ∃ s f e k, vs = [.ref s, .int k] ∧ StayAt C kn s f e ∧ MakeOr C B kn (f + k) (e + k) Q E
def bLeft (C B : Addr) : List V → Hp → AK → AXK → Prop := fun vs kn Q E => ∃ s f e k, vs = [.ref s, .int k] ∧ StayAt C kn s f e ∧ MakeOr C B kn (f - k) (e - k) Q E
/-- parted at a day, or refused -/
def bPart (K : PySem.W.Frag) (C B : Addr) : List V → Hp → AK → AXK → Prop := fun vs kn Q E => ∃ s f e y, vs = [.ref s, y] ∧ StayAt C kn s f e ∧
  ((∃ d, y = .int d ∧ f < d ∧ d < e ∧ ∀ q x z kn', Ext kn kn' → kn q = none → kn' q = some (.tup [.ref x, .ref z]) → StayAt C kn' x f d → StayAt C kn' z d e → Q (.ref q) kn') ∨
   (((∃ d, y = .int d ∧ ¬(f < d ∧ d < e)) ∨ Odd K kn y) ∧ BadS B kn "day" E))
section
variable {K : PySem.W.Frag} {C B : Addr}
theorem mo_len : MonoX (bLen C) := by
  rintro vs kn Q R E F h1 h2 ⟨s, f, e, a, b, h⟩
  exact ⟨s, f, e, a, b, h1 _ _ h⟩
theorem mo_meets : MonoX (bMeets C) := by
  rintro vs kn Q R E F h1 h2 ⟨s, f, e, s', f', e', a, b, c, h⟩
  exact ⟨s, f, e, s', f', e', a, b, c, h1 _ _ h⟩
theorem mo_right : MonoX (bRight C B) := by
  rintro vs kn Q R E F h1 h2 ⟨s, f, e, k, a, b, h⟩
  exact ⟨s, f, e, k, a, b, mo_make h1 h2 h⟩
theorem mo_left : MonoX (bLeft C B) := by
  rintro vs kn Q R E F h1 h2 ⟨s, f, e, k, a, b, h⟩
  exact ⟨s, f, e, k, a, b, mo_make h1 h2 h⟩
theorem mo_part : MonoX (bPart K C B) := by
  rintro vs kn Q R E F h1 h2 ⟨s, f, e, y, a, b, ⟨d, c1, c2, c3, h⟩ | ⟨c, h⟩⟩
  · exact ⟨s, f, e, y, a, b, .inl ⟨d, c1, c2, c3, fun q x z kn' m1 m2 m3 m4 m5 => h1 _ _ (h q x z kn' m1 m2 m3 m4 m5)⟩⟩
  · exact ⟨s, f, e, y, a, b, .inr ⟨c, fun d k m1 m2 m3 => h2 _ _ _ (h d k m1 m2 m3)⟩⟩
end
section
variable {P : Program} {w : World} {K : PySem.W.Frag} {mg : Str → Option Value} {base : Heap}
theorem ok_Stay___len__ (T : Tx K mg) : FnOk P w K mg base CX0 1 T.f_Stay___len__ T.d_Stay___len__ ["self"] (liftX (bLen T.c_Stay)) := by
  refine T.F_Stay___len__.ok sc_Stay___len__ (fun vs H Q E h => ?_) (fun cdv A outer s H vs Q E hr h => ?_)
  · obtain ⟨kn, _, _, a, f, e, rfl, _⟩ := h
    rfl
  · obtain ⟨kn, ex, nt, a, f, e, rfl, st, h⟩ := h
    have cS := T.cl_Stay; have nF := T.na_Stay_first; have nA := T.na_Stay_after; have nN := T.na_Stay__nights
    refine ⟨_, (pss_one (ps_ret (pe_callB c_len (by rfl) T.b_len PySem.boot_len (pa_cons (pe_fld (pv 0) rfl) pa_nil)))), ?_⟩
    refine body_of (pure_start ex nt) ?_
    walk_at "wi"
    intro p hp
    walk_at "wi"
    rw [show (((rgV f e).length : Nat) : Int) = e - f by rw [rgV_length]; have := st.lt; omega]
    exact h 0
theorem ok_Stay___rshift__ (T : Tx K mg) : FnOk P w K mg base (L2.CX P w) 6 T.f_Stay___rshift__ T.d_Stay___rshift__ ["self", "other"] (liftX (bRight T.c_Stay T.c_BadStay)) := by
  refine T.F_Stay___rshift__.okX sc_Stay___rshift__ (fun vs H Q E h => ?_) (fun cdv A outer s H vs Q E hr h => ?_)
  · obtain ⟨kn, _, _, a, f, e, k, rfl, _⟩ := h
    rfl
  · obtain ⟨kn, ex, nt, a, f, e, k, rfl, st, h⟩ := h
    have cS := T.cl_Stay; have nF := T.na_Stay_first; have nA := T.na_Stay_after; have nN := T.na_Stay__nights
    refine ⟨_, (pss_one (ps_ret (pe_make T.mk_Stay (ok_Stay___init__ T) (hr.mono (by decide)) (by rfl) T.g_Stay T.bd_Stay___init__ .nil (passes_call (takes_of rfl rfl rfl rfl) (fun _ _ _ _ h => h)) (pa_cons (pe_op op_add (pe_fld (pv 0) rfl) (pv 1)) (pa_cons (pe_op op_add (pe_fld (pv 0) rfl) (pv 1)) pa_nil))))), ?_⟩
    refine body_of (pure_start ex nt) ?_
    refine s_ret (w_stay err_body ?_)
    walk_at "wi"
    exact ⟨_, _, rfl, mo_make (fun v k z => z 0) (fun c d k z => z 0) h⟩
theorem ok_Stay___lshift__ (T : Tx K mg) : FnOk P w K mg base (L2.CX P w) 7 T.f_Stay___lshift__ T.d_Stay___lshift__ ["self", "other"] (liftX (bLeft T.c_Stay T.c_BadStay)) := by
  refine T.F_Stay___lshift__.okX sc_Stay___lshift__ (fun vs H Q E h => ?_) (fun cdv A outer s H vs Q E hr h => ?_)
  · obtain ⟨kn, _, _, a, f, e, k, rfl, _⟩ := h
    rfl
  · obtain ⟨kn, ex, nt, a, f, e, k, rfl, st, h⟩ := h
    refine ⟨_, (pss_one (ps_ret (pe_op (op_own T.op_Stay_rshift (ok_Stay___rshift__ T) (hr.mono (by decide)) T.bd_Stay___rshift__ (passes_call (takes_of rfl rfl rfl rfl) (fun _ _ _ _ h => h))) (pv 0) (pe_un un_neg (pv 1))))), ?_⟩
    refine body_of (pure_start ex nt) ?_
    walk_at "wi"
    obtain ⟨dx, p, a1, b1⟩ := st.at_
    refine r_own mo_right err_body a1 (.base (.int _)) (ot_int_shr T.si_Stay) ⟨_, _, _, _, rfl, st, ?_⟩
    rw [← Int.sub_eq_add_neg, ← Int.sub_eq_add_neg]
    exact mo_make (fun v k z => z 0) (fun c d k z => z 0) h
theorem ok_Stay_meets (T : Tx K mg) : FnOk P w K mg base CX0 1 T.f_Stay_meets T.d_Stay_meets ["self", "other"] (liftX (bMeets T.c_Stay)) := by
  refine T.F_Stay_meets.ok sc_Stay_meets (fun vs H Q E h => ?_) (fun cdv A outer s H vs Q E hr h => ?_)
  · obtain ⟨kn, _, _, a, f, e, _, _, _, rfl, _⟩ := h
    rfl
  · obtain ⟨kn, ex, nt, a, f, e, s', f', e', rfl, st, st', h⟩ := h
    have cS := T.cl_Stay; have nF := T.na_Stay_first; have nA := T.na_Stay_after; have nN := T.na_Stay__nights
    refine ⟨_, (pss_one (ps_ret (pe_and (pe_cmpR op_lt (pe_fld (pv 0) rfl) (pe_fld (pv 1) rfl) (nomark _)) (pe_one (pe_cmpR op_lt (pe_fld (pv 1) rfl) (pe_fld (pv 0) rfl) (nomark _)))))), ?_⟩
    refine body_of (pure_start ex nt) ?_
    walk_at "wi"
    refine ⟨fun hb => ?_, fun hb => ?_⟩
    · walk_at "wi"
      rw [hb] at h
      exact h 0
    · rw [hb] at h
      exact h 0
theorem ok_Stay___floordiv__ (T : Tx K mg) : FnOk P w K mg base (L2.CX P w) 6 T.f_Stay___floordiv__ T.d_Stay___floordiv__ ["self", "other"] (liftX (bPart K T.c_Stay T.c_BadStay)) := by
  refine T.F_Stay___floordiv__.okX sc_Stay___floordiv__ (fun vs H Q E h => ?_) (fun cdv A outer s H vs Q E hr h => ?_)
  · obtain ⟨kn, _, _, a, f, e, k, rfl, _⟩ := h
    rfl
  · obtain ⟨kn, ex, nt, a, f, e, y, rfl, st, h⟩ := h
    have cS := T.cl_Stay; have nF := T.na_Stay_first; have nA := T.na_Stay_after; have nN := T.na_Stay__nights
    refine ⟨_, (pss_cons (ps_if (PW.pt (pw_or (pt_not (pt_val (pe_call (ok_is_whole T) (hr.mono (by decide)) (by rfl) T.g_is_whole T.F_is_whole.kp T.bd_is_whole .nil pass0 (pa_cons (pv 1) pa_nil)))) (pw_or1 (pt_not (pt_chain op_lt op_lt (pe_fld (pv 0) rfl) (pv 1) (pe_fld (pv 0) rfl))))))
       (pss_one (ps_raise rfl (takes_of rfl rfl rfl rfl) (pmk_oex T.x_BadStay T.fi_BadStay___init__ T.ti_BadStay (ok_BadStay___init__ T) (hr.mono (by decide)) T.bd_BadStay___init__ .nil pass0 (by rfl) T.g_BadStay (pa_cons pe_str pa_nil))))
       pss_nil)
       (pss_one (ps_ret (pe_tup (pa_cons (pe_make T.mk_Stay (ok_Stay___init__ T) (hr.mono (by decide)) (by rfl) T.g_Stay T.bd_Stay___init__ .nil (passes_call (takes_of rfl rfl rfl rfl) (fun _ _ _ _ h => h)) (pa_cons (pe_fld (pv 0) rfl) (pa_cons (pv 1) pa_nil))) (pa_cons (pe_make T.mk_Stay (ok_Stay___init__ T) (hr.mono (by decide)) (by rfl) T.g_Stay T.bd_Stay___init__ .nil (passes_call (takes_of rfl rfl rfl rfl) (fun _ _ _ _ h => h)) (pa_cons (pv 1) (pa_cons (pe_fld (pv 0) rfl) pa_nil))) pa_nil)))))), ?_⟩
    refine body_of (pure_start ex nt) ?_
    walk_at "wi"
    refine w_call mo_whole err_no ?_
    walk_at "wi"
    rcases h with ⟨d, rfl, l1, l2, h⟩ | ⟨⟨d, rfl, l⟩ | o, h⟩
    · refine ⟨_, rfl, .inl ⟨d, rfl, ?_⟩⟩
      walk_at "wi"
      refine ⟨fun hb => ?_, fun hb => absurd (decide_eq_true l1) (by rw [hb]; exact Bool.false_ne_true)⟩
      walk_at "wi"
      rw [decide_eq_true l2]
      walk_at "wi"
      have dd : isDay d := ⟨Int.le_trans st.d1.1 (Int.le_of_lt l1), Int.le_trans (Int.le_of_lt l2) st.d2.2⟩
      have m := st.most
      refine w_stay err_body ?_
      walk_at "wi"
      refine ⟨f, d, rfl, .inl ⟨st.d1, dd, l1, by omega, fun x kn1 x1 x0 s1 => ?_⟩⟩
      walk_at "wi"
      refine w_stay err_body ?_
      walk_at "wi"
      refine ⟨d, e, rfl, .inl ⟨dd, st.d2, l2, by omega, fun z kn2 x2 z0 s2 => ?_⟩⟩
      walk_at "wi"
      refine ⟨show 2 ≤ 1000 by decide, fun q hq => ?_⟩
      exact h q x z _ (ext_tr (ext_tr x1 x2) (ext_new hq)) (free_ext x1 (free_ext x2 hq)) upd_same (StayAt.ext (ext_tr x2 (ext_new hq)) s1) (StayAt.ext (ext_new hq) s2) 0
    · refine ⟨_, rfl, .inl ⟨d, rfl, ?_⟩⟩
      walk_at "wi"
      refine ⟨fun hb => ?_, fun hb => ?_⟩
      · walk_at "wi"
        rw [decide_eq_false (fun z => l ⟨of_decide_eq_true hb, z⟩)]
        walk_at "wi"
        refine s_raise1 T.x_BadStay T.nx_BadStay_part err_body ?_
        walk_at "wi"
        exact fun q hq => h q _ (ext_new hq) hq upd_same 0
      · walk_at "wi"
        refine s_raise1 T.x_BadStay T.nx_BadStay_part err_body ?_
        walk_at "wi"
        exact fun q hq => h q _ (ext_new hq) hq upd_same 0
    · refine ⟨_, rfl, .inr ⟨o, ?_⟩⟩
      walk_at "wi"
      refine s_raise1 T.x_BadStay T.nx_BadStay_part err_body ?_
      walk_at "wi"
      exact fun q hq => h q _ (ext_new hq) hq upd_same 0
theorem oN_Stay___iter__ (T : Tx K mg) : FnN P w K mg base CX0 1 T.f_Stay___iter__ T.d_Stay___iter__ ["self"] (spIterN T.c_Stay "_nights") := by
  refine T.F_Stay___iter__.okN sc_Stay___iter__ (fun n vs H Q E h => ?_) (fun cdv A outer s H vs Q E hr h => ?_)
  · obtain ⟨a, dx, fs, t, zs, rfl, _⟩ := h
    rfl
  · obtain ⟨a, dx, fs, t, zs, rfl, ha, hl, ht, h⟩ := h
    refine ⟨_, (pss_one (ps_ret (pe_callB c_iterTN (by rfl) T.b_iter (by decide +kernel) (pa_cons (pe_fld (pv 0) rfl) pa_nil)))), ?_⟩
    exact ⟨_, rfl, a, _, dx, fs, _, rfl, ha, T.cl_Stay, T.na_Stay__nights, hl, t, zs, rfl, sqt ht, h⟩
end
theorem r_lenS {c : Cw} {kn : Hp} {n : Nat} {Q : V → Hp → Nat → Prop} {C s : Addr} {f e : Int} (st : StayAt C kn s f e) (q : Q (.int (e - f)) kn n) : W c (rLenO C (liftX (bLen C)) [.ref s]) kn n Q := by
  obtain ⟨dx, p, a1, b1⟩ := st.at_
  have l0 := st.lt
  have l1 := st.most
  exact r_lenO mo_len a1 ⟨s, f, e, rfl, st, _, rfl, ⟨by omega, by omega⟩, q⟩
section
variable {K : PySem.W.Frag} {mg : Str → Option Value} {c : Cw} {kn : Hp} {n : Nat} {Q : V → Hp → Nat → Prop} {s s' : Addr} {f e f' e' k : Int} {E : XK}
theorem r_shr (T : Tx K mg) (st : StayAt T.c_Stay kn s f e) (d1 : isDay (f + k)) (d2 : isDay (e + k)) (h : ∀ x kn', Ext kn kn' → kn x = none → StayAt T.c_Stay kn' x (f + k) (e + k) → Q (.ref x) kn' n) : W c (rOwn K .RShift T.c_Stay (liftX (bRight T.c_Stay T.c_BadStay)) E (.ref s) (.int k)) kn n Q := by
  obtain ⟨dx, p, a1, b1⟩ := st.at_
  have l := st.lt
  have m := st.most
  exact r_own mo_right err_no a1 (.base (.int _)) (ot_int_shr T.si_Stay) ⟨_, _, _, _, rfl, st, .inl ⟨d1, d2, by omega, by omega, h⟩⟩
theorem r_shl (T : Tx K mg) (st : StayAt T.c_Stay kn s f e) (d1 : isDay (f - k)) (d2 : isDay (e - k)) (h : ∀ x kn', Ext kn kn' → kn x = none → StayAt T.c_Stay kn' x (f - k) (e - k) → Q (.ref x) kn' n) : W c (rOwn K .LShift T.c_Stay (liftX (bLeft T.c_Stay T.c_BadStay)) E (.ref s) (.int k)) kn n Q := by
  obtain ⟨dx, p, a1, b1⟩ := st.at_
  have l := st.lt
  have m := st.most
  exact r_own mo_left err_no a1 (.base (.int _)) (ot_int_shl T.si_Stay) ⟨_, _, _, _, rfl, st, .inl ⟨d1, d2, by omega, by omega, h⟩⟩
theorem nf_Stay (T : Tx K mg) : PySem.W.notFirst K T.c_Stay (.ref T.c_Stay) = true := by
  unfold PySem.W.notFirst
  simp
end
theorem day_of {i : Int} (h : -999999999999 ≤ i ∧ i ≤ 999999999999) : isDay i := h
end S

end NN

namespace NN
open PySem PySem.Spec PyProof.Rows L2 LamX AW ClX
open Tx1 Ln
namespace L
theorem nat_any {K : PySem.W.Frag} {kn : Hp} {xs : List Nat} : ∀ x ∈ natV xs, AnyN K kn x := fun x hx => by
  obtain ⟨m, _, rfl⟩ := List.mem_map.1 hx
  exact .inl ⟨_, rfl⟩
theorem okO_nat {xs : List Nat} {lo hi : Int} (h : ∀ n ∈ xs, lo ≤ (n : Int) ∧ (n : Int) ≤ hi) : okO lo hi (some (natV xs)) = true := by
  show (natV xs).all (okV lo hi) = true
  rw [List.all_map, List.all_eq_true]
  intro n hn
  have := h n hn
  show okV lo hi (.int (n : Int)) = true
  simp only [okV, Bool.and_eq_true, decide_eq_true_eq]
  omega
def bSize : List V → Hp → AK → AXK → Prop := fun vs kn Q _ => ∃ b s : Int, vs = [.int b, .int s] ∧ b + s ≤ 400 ∧ Q .non kn
theorem mo_size : MonoX bSize := by
  rintro vs kn Q R E F h1 h2 ⟨b, s, a, c, h⟩
  exact ⟨b, s, a, c, h1 _ _ h⟩
def bArg : List V → Hp → AK → AXK → Prop := fun vs kn Q _ => ∃ v lo hi : Int, vs = [.int v, .int lo, .int hi] ∧ lo ≤ v ∧ v ≤ hi ∧ Q .non kn
theorem mo_arg : MonoX bArg := by
  rintro vs kn Q R E F h1 h2 ⟨v, lo, hi, a, b, c, h⟩
  exact ⟨v, lo, hi, a, b, c, h1 _ _ h⟩
/-- right arguments -/
structure Args4 (K : PySem.W.Frag) (kn : Hp) (lo re : V) (st p : Nat) (xs ys : List Nat) : Prop where
  s1 : st ≤ 400
  p1 : 1 ≤ p
  p2 : p ≤ 400
  lx : xs.length ≤ 1000
  ly : ys.length ≤ 1000
  mx : ∀ n ∈ xs, n < st
  my : ∀ n ∈ ys, n < p
  vx : SeqV K kn lo (natV xs)
  vy : SeqV K kn re (natV ys)
def bParts (K : PySem.W.Frag) : List V → Hp → AK → AXK → Prop := fun vs kn Q _ => ∃ (lo re : V) (st p : Nat) (xs ys : List Nat), vs = [.int st, lo, .int p, re] ∧ Args4 K kn lo re st p xs ys ∧ ∀ k', Ext kn k' → Q .non k'
theorem mo_parts {K : PySem.W.Frag} : MonoX (bParts K) := by
  rintro vs kn Q R E F h1 h2 ⟨lo, re, st, p, xs, ys, a, b, h⟩
  exact ⟨lo, re, st, p, xs, ys, a, b, fun k e => h1 _ _ (h k e)⟩
section
variable {P : Program} {w : World} {K : PySem.W.Frag} {mg : Str → Option Value} {base : Heap}
theorem ok_check_size (T : Tx K mg) : FnOk P w K mg base CX0 1 T.f_check_size T.d_check_size ["start", "period"] (liftX bSize) := by
  refine T.F_check_size.ok sc_check_size (fun vs H Q E h => ?_) (fun cdv A outer s H vs Q E hr h => ?_)
  · obtain ⟨kn, _, _, b, s, rfl, _⟩ := h
    rfl
  · obtain ⟨kn, ex, nt, b, s, rfl, hl, h⟩ := h
    refine ⟨_, (pss_one (ps_if (pt_cmpR op_gt (pe_op op_add (pv 0) (pv 1)) (pe_cval (pe_glob (v := .ref T.c_Lengths) (by rfl) T.g_Lengths rfl)) (nomark _))
       (pss_one ps_never)
       pss_nil)), ?_⟩
    refine body_of (pure_start ex nt) ?_
    obtain ⟨mu, hmu⟩ := T.cv_Lengths_MOST
    walk_at "wi"
    refine ⟨_, _, _, _, rfl, T.cr_Lengths, hmu, ?_⟩
    walk_at "wi"
    refine ⟨fun hb => s_never ?_, fun _ => ?_⟩
    · have := of_decide_eq_true hb
      omega
    · walk_at "wi"
      exact h 0
theorem ok_check_argument (T : Tx K mg) : FnOk P w K mg base CX0 3 T.f_check_argument T.d_check_argument ["value", "least", "most"] (liftX bArg) := by
  refine T.F_check_argument.ok sc_check_argument (fun vs H Q E h => ?_) (fun cdv A outer s H vs Q E hr h => ?_)
  · obtain ⟨kn, _, _, v, lo, hi, rfl, _⟩ := h
    rfl
  · obtain ⟨kn, ex, nt, v, lo, hi, rfl, h1, h2, h⟩ := h
    refine ⟨_, (pss_one (ps_if (pt_not (pt_val (pe_call (ok_is_from T) (hr.mono (by decide)) (by rfl) T.g_is_from T.F_is_from.kp T.bd_is_from .nil pass0 (pa_cons (pv 0) (pa_cons (pv 1) (pa_cons (pv 2) pa_nil))))))
       (pss_one ps_never)
       pss_nil)), ?_⟩
    refine body_of (pure_start ex nt) ?_
    walk_at "wi"
    refine w_call mo_from err_no ?_
    walk_at "w"
    refine ⟨_, _, _, rfl, .inl ⟨_, rfl, ?_⟩⟩
    rw [decide_eq_true h1, decide_eq_true h2]
    walk_at "wi"
    refine ⟨fun z => absurd z (by decide), fun _ => ?_⟩
    walk_at "wi"
    exact h 0
theorem ok_check_parts (T : Tx K mg) : FnOk P w K mg base CX0 4 T.f_check_parts T.d_check_parts ["start", "low", "period", "rests"] (liftX (bParts K)) := by
  refine T.F_check_parts.ok sc_check_parts (fun vs H Q E h => ?_) (fun cdv A outer s H vs Q E hr h => ?_)
  · obtain ⟨kn, _, _, lo, re, st, p, xs, ys, rfl, _⟩ := h
    rfl
  · obtain ⟨kn, ex, nt, lo, re, st, p, xs, ys, rfl, ⟨s1, p1, p2, lx, ly, mx, my, vx, vy⟩, h⟩ := h
    refine ⟨_, (pss_cons (ps_if (pt_not (pt_val (pe_call (ok_is_from T) (hr.mono (by decide)) (by rfl) T.g_is_from T.F_is_from.kp T.bd_is_from .nil pass0 (pa_cons (pv 0) (pa_cons pe_int (pa_cons (pe_cval (pe_glob (v := .ref T.c_Lengths) (by rfl) T.g_Lengths rfl)) pa_nil))))))
       (pss_one ps_never)
       pss_nil)
       (pss_cons (ps_if (pt_not (pt_val (pe_call (ok_are_from T) (hr.mono (by decide)) (by rfl) T.g_are_from T.F_are_from.kp T.bd_are_from .nil pass0 (pa_cons (pv 1) (pa_cons pe_int (pa_cons (pe_op op_sub (pv 0) pe_int) pa_nil))))))
       (pss_one ps_never)
       pss_nil)
       (pss_cons (ps_if (pt_not (pt_val (pe_call (ok_is_from T) (hr.mono (by decide)) (by rfl) T.g_is_from T.F_is_from.kp T.bd_is_from .nil pass0 (pa_cons (pv 2) (pa_cons pe_int (pa_cons (pe_cval (pe_glob (v := .ref T.c_Lengths) (by rfl) T.g_Lengths rfl)) pa_nil))))))
       (pss_one ps_never)
       pss_nil)
       (pss_one (ps_if (pt_not (pt_val (pe_call (ok_are_from T) (hr.mono (by decide)) (by rfl) T.g_are_from T.F_are_from.kp T.bd_are_from .nil pass0 (pa_cons (pv 3) (pa_cons pe_int (pa_cons (pe_op op_sub (pv 2) pe_int) pa_nil))))))
       (pss_one ps_never)
       pss_nil))))), ?_⟩
    refine body_of (pure_start ex nt) ?_
    obtain ⟨mu, hmu⟩ := T.cv_Lengths_MOST
    walk_at "wi"
    refine w_call mo_from err_no ?_
    walk_at "w"
    refine ⟨_, _, _, _, rfl, T.cr_Lengths, hmu, ?_⟩
    walk_at "w"
    refine ⟨_, _, _, rfl, .inl ⟨_, rfl, ?_⟩⟩
    rw [decide_eq_true (show (0 : Int) ≤ (st : Int) by omega), decide_eq_true (show (st : Int) ≤ 400 by omega)]
    walk_at "wi"
    refine ⟨fun z => absurd z (by decide), fun _ => ?_⟩
    walk_at "wi"
    refine w_call mo_are err_no ?_
    walk_at "w"
    refine ⟨_, some (natV xs), _, _, rfl, ⟨vx, by rw [List.length_map]; exact lx, nat_any⟩, fun k1 e1 => ?_⟩
    rw [okO_nat fun n hn => by have := mx n hn; omega]
    walk_at "wi"
    refine w_call mo_from err_no ?_
    walk_at "w"
    refine ⟨_, _, _, _, rfl, T.cr_Lengths, hmu, ?_⟩
    walk_at "w"
    refine ⟨_, _, _, rfl, .inl ⟨_, rfl, ?_⟩⟩
    rw [decide_eq_true (show (1 : Int) ≤ (p : Int) by omega), decide_eq_true (show (p : Int) ≤ 400 by omega)]
    walk_at "wi"
    refine ⟨fun z => absurd z (by decide), fun _ => ?_⟩
    walk_at "wi"
    refine w_call mo_are err_no ?_
    walk_at "w"
    refine ⟨_, some (natV ys), _, _, rfl, ⟨SeqV.ext e1 vy, by rw [List.length_map]; exact ly, nat_any⟩, fun k2 e2 => ?_⟩
    rw [okO_nat fun n hn => by have := my n hn; omega]
    walk_at "wi"
    exact h _ (ext_tr e1 e2) 0
end
end L

end NN

namespace NN
open PySem PySem.Spec PyProof.Rows L2 LamX AW ClX
open Tx1 Ln
namespace L
/-! ### the class -/
abbrev lenF (b s : Nat) (q1 q2 q3 : Addr) : List (Str × V) := [("_start", .int b), ("_period", .int s), ("_low", .ref q1), ("_rests", .ref q2), ("_marks", .ref q3)]
structure LenAt (C : Addr) (kn : Hp) (a : Addr) (nr tn : List Bool) : Prop where
  at_ : ∃ dx q1 q2 q3, kn a = some (.ins C dx (lenF nr.length tn.length q1 q2 q3)) ∧ kn q1 = some (.tup (natV (idx nr))) ∧ kn q2 = some (.tup (natV (idx tn))) ∧ kn q3 = some (.tup (blV (marks nr tn)))
  form : Form nr tn
theorem LenAt.ext {C : Addr} {kn kn' : Hp} {a : Addr} {nr tn : List Bool} (x : Ext kn kn') (h : LenAt C kn a nr tn) : LenAt C kn' a nr tn := by
  obtain ⟨⟨dx, q1, q2, q3, a1, a2, a3, a4⟩, f⟩ := h
  exact ⟨⟨dx, q1, q2, q3, x _ _ a1, x _ _ a2, x _ _ a3, x _ _ a4⟩, f⟩
/-- known but at a -/
def KE (a : Addr) (kn k : Hp) : Prop := ∀ x o, x ≠ a → kn x = some o → k x = some o
theorem KE.rf {a : Addr} {kn : Hp} : KE a kn kn := fun _ _ _ h => h
theorem KE.ext {a : Addr} {kn k k' : Hp} (h : KE a kn k) (e : Ext k k') : KE a kn k' := fun x o n z => e _ _ (h x o n z)
theorem KE.put {a : Addr} {kn k : Hp} {o : HO} (h : KE a kn k) : KE a kn (upd k a o) := fun x u n z => by
  rw [upd_ne n]
  exact h x u n z
abbrev NewL (C : Addr) (kn : Hp) (nr tn : List Bool) (Q : AK) : Prop := ∀ x k', Ext kn k' → kn x = none → LenAt C k' x nr tn → Q (.ref x) k'
/-- the form that right arguments tell -/
def formN (st p : Nat) (xs ys : List Nat) : List Bool := (maskOf st xs).take (beginOf (maskOf st xs) (maskOf p ys) (leastP (maskOf p ys)))
def formT (p : Nat) (ys : List Nat) : List Bool := (maskOf p ys).take (leastP (maskOf p ys))
def bInit (K : PySem.W.Frag) (C : Addr) : List V → Hp → AK → AXK → Prop := fun vs kn Q _ => ∃ (a dx : Addr) (lo re : V) (st p : Nat) (xs ys : List Nat), vs = [.ref a, .int st, lo, .int p, re] ∧ kn a = some (.ins C dx []) ∧ Args4 K kn lo re st p xs ys ∧
  beginOf (maskOf st xs) (maskOf p ys) (leastP (maskOf p ys)) + leastP (maskOf p ys) ≤ 400 ∧ ∀ k', KE a kn k' → (∃ q1 q2 q3, k' a = some (.ins C dx (lenF (formN st p xs ys).length (formT p ys).length q1 q2 q3)) ∧ k' q1 = some (.tup (natV (idx (formN st p xs ys)))) ∧ k' q2 = some (.tup (natV (idx (formT p ys)))) ∧ k' q3 = some (.tup (blV (marks (formN st p xs ys) (formT p ys))))) → Q .non k'
theorem mo_init {K : PySem.W.Frag} {C : Addr} : MonoX (bInit K C) := by
  rintro vs kn Q R E F h1 h2 ⟨a, dx, lo, re, st, p, xs, ys, e1, e2, e3, e6, h⟩
  exact ⟨a, dx, lo, re, st, p, xs, ys, e1, e2, e3, e6, fun k z y => h1 _ _ (h k z y)⟩
theorem rng_filter {m : Nat} {p : V → Bool} {P : Nat → Bool} (h : ∀ i, i < m → p (.int (0 + ((i : Nat) : Int))) = P i) : ((List.range m).map fun (i : Nat) => V.int (0 + (i : Int))).filter p = natV ((List.range m).filter P) := by
  rw [List.filter_map]
  unfold natV
  have e : (fun (i : Nat) => V.int (0 + (i : Int))) = fun (i : Nat) => V.int (i : Int) := by funext i; rw [Int.zero_add]
  rw [e]
  congr 1
  apply List.filter_congr
  intro i hi
  have := h i (List.mem_range.1 hi)
  rw [Int.zero_add] at this
  exact this
theorem idx_take {t : List Bool} {b : Nat} (h : b ≤ t.length) : (List.range b).filter (ix t) = idx (t.take b) := by
  unfold idx
  rw [List.length_take, Nat.min_eq_left h]
  apply List.filter_congr
  intro i hi
  exact (ix_take (List.mem_range.1 hi)).symm
theorem at_bl {t : List Bool} {i : Nat} (h : i < t.length) : atI (blV t) ((i : Nat) : Int) = some (.bl (ix t i)) := by
  refine atI_nat ?_
  rw [List.getElem?_map, List.getElem?_eq_getElem h, ix_lt h]
  rfl
theorem at_last {ys : List Nat} {m : Nat} : atI (natV (ys ++ [m])) (-1) = some (.int m) := by
  unfold natV
  rw [List.map_append]
  exact atI_last _ _
theorem bl_ne {a b : Bool} : (!decide (V.bl a = V.bl b)) = (a != b) := by cases a <;> cases b <;> rfl
def pAst (near turn : List Bool) (s : Nat) : V → Bool
  | .int i => ix near i.toNat != ix turn (i.toNat % s)
  | _ => false
def pIx (t : List Bool) : V → Bool
  | .int i => ix t i.toNat
  | _ => false
def fIx (t : List Bool) (s : Nat) : V → V
  | .int i => .bl (ix t (i.toNat % s))
  | v => v
theorem begin_last {near turn : List Bool} {s : Nat} : (astray near turn s = [] ∧ beginOf near turn s = 0) ∨ ∃ ys m, astray near turn s = ys ++ [m] ∧ beginOf near turn s = m + 1 := by
  unfold beginOf
  cases h : (astray near turn s).getLast? with
  | none => exact .inl ⟨List.getLast?_eq_none_iff.1 h, rfl⟩
  | some m =>
    obtain ⟨ys, e⟩ := List.getLast?_eq_some_iff.1 h
    exact .inr ⟨ys, m, e, rfl⟩
theorem marks_take {near turn : List Bool} {b s : Nat} (hb : b ≤ near.length) (hs : s ≤ turn.length) (h0 : 0 < s) : near.take b ++ (List.range s).map (fun i => ix turn ((b + i) % s)) = marks (near.take b) (turn.take s) := by
  unfold marks
  rw [List.length_take, List.length_take, Nat.min_eq_left hb, Nat.min_eq_left hs]
  congr 1
  apply List.map_congr_left
  intro i _
  exact (ix_take (Nat.mod_lt _ h0)).symm
section
variable {c : Cw} {kn : Hp} {n : Nat} {σ : L2.St} {Q : V → Hp → Nat → Prop} {K : PySem.W.Frag}
/-- tuple([n for n in range(b) if t[n]]) -/
theorem w_tupIx {i j : Nat} {q : Addr} {b : Nat} {t : List Bool} (hi : σ[i]? = some (some (.int b))) (hj : ∀ v : V, ((wipe σ [9]).set 9 (some v))[j]? = some (some (.ref q))) (h9 : ∀ v : V, ((wipe σ [9]).set 9 (some v))[9]? = some (some v)) (hw : ∀ v : V, wipe ((wipe σ [9]).set 9 (some v)) [9] = wipe σ [9])
    (ht : kn q = some (.lst (blV t))) (hb : b ≤ t.length) (hs : b ≤ 1000) (hq : ∀ l k', Ext kn k' → kn l = none → k' l = some (.tup (natV (idx (t.take b)))) → Q (.ref l) k' n) :
    W c (tCB (rTupQ K) (tCons (tLc (iRng1 (tCons (tVar i) tNil)) (gName 9) (tB (tOp (rIxL K) (tVar j) (tVar 9))) (tVar 9) [9]) tNil) σ) kn n Q := by
  refine w_cb (w_cons (w_lcP (i_rng1 (w_cons (w_var hi (w_nil ⟨b, rfl, by omega, by omega, ?_⟩))))))
  rw [Int.toNat_natCast]
  refine ⟨_, (fun _ => True), (fun v => v), pIx t, gives_rng, by rw [List.length_map, List.length_range]; omega, fun _ _ => trivial, fun x hx k ek => ?_, fun D hD => ?_⟩
  · obtain ⟨m, hm, rfl⟩ := List.mem_map.1 hx
    have hm := List.mem_range.1 hm
    rw [Int.zero_add]
    refine g_name ⟨rfl, rfl, hw _, ?_⟩
    refine w_B (w_op (w_var (hj _) (w_var (h9 _) (r_ixL (ek _ _ ht) (at_bl (by omega)) ⟨_, rfl, rfl, rfl, rfl, fun _ => w_var (h9 _) ⟨rfl, rfl, rfl⟩⟩))))
  · rw [rng_filter (P := ix t) (fun i hi => by rw [Int.zero_add]; rfl), List.map_id', idx_take hb]
    refine w_nil (r_tupL upd_same fun l hl => ?_)
    exact hq l _ (ext_tr (ext_new hD) (ext_new hl)) (free_ext (ext_new hD) hl) upd_same
end
section
variable {P : Program} {w : World} {K : PySem.W.Frag} {mg : Str → Option Value} {base : Heap}
theorem ok_Lengths___init__ (T : Tx K mg) : FnOk P w K mg base CX0 5 T.f_Lengths___init__ T.d_Lengths___init__ ["self", "start", "low", "period", "rests"] (liftX (bInit K T.c_Lengths)) := by
  refine T.F_Lengths___init__.ok sc_Lengths___init__ (fun vs H Q E h => ?_) (fun cdv A outer s H vs Q E hr h => ?_)
  · obtain ⟨kn, _, _, a, dx, lo, re, st, p, xs, ys, rfl, _⟩ := h
    rfl
  · obtain ⟨kn, ex, nt, a, dx, lo, re, st, p, xs, ys, rfl, ha, ar, hsz, h⟩ := h
    obtain ⟨a1, ea1, _⟩ := id ar.vx
    obtain ⟨a2, ea2, _⟩ := id ar.vy
    subst ea1 ea2
    refine ⟨_, (pss_cons (ps_expr (pe_call (ok_check_parts T) (hr.mono (by decide)) (by rfl) T.g_check_parts T.F_check_parts.kp T.bd_check_parts .nil pass0 (pa_cons (pv 1) (pa_cons (pv 2) (pa_cons (pv 3) (pa_cons (pv 4) pa_nil))))))
       (pss_cons (ps_set (i := 5) sc_Lengths___init__.nd rfl (by first | exact Or.inl rfl | exact Or.inr rfl) (pe_call (ok_marked T) (hr.mono (by decide)) (by rfl) T.g_marked T.F_marked.kp T.bd_marked .nil pass0 (pa_cons (pv 1) (pa_cons (pv 2) pa_nil))))
       (pss_cons (ps_set (i := 6) sc_Lengths___init__.nd rfl (by first | exact Or.inl rfl | exact Or.inr rfl) (pe_call (ok_marked T) (hr.mono (by decide)) (by rfl) T.g_marked T.F_marked.kp T.bd_marked .nil pass0 (pa_cons (pv 3) (pa_cons (pv 4) pa_nil))))
       (pss_cons (ps_set (i := 7) sc_Lengths___init__.nd rfl (by first | exact Or.inl rfl | exact Or.inr rfl) (pe_call (ok_least_period T) (hr.mono (by decide)) (by rfl) T.g_least_period T.F_least_period.kp T.bd_least_period .nil pass0 (pa_cons (pv 6) pa_nil)))
       (pss_cons (ps_setLc (i := 8) (own := [("n", 9)]) (g := gName 9) (by rfl) sc_Lengths___init__.nd rfl rfl (sw_true rfl rfl rfl (by decide +kernel)) (pi_range1 (by rfl) T.b_range (pa_cons (pv 1) pa_nil)) (blkOk_by (own := [("n", 9)]) (N := ["self", "start", "low", "period", "rests", "near", "turn", "step", "astray", "n", "begin"]) (sc := defScope s_Lengths___init__) (by decide +kernel)) (fun _ _ _ _ _ => pg_name (i := 9) sc_Lengths___init__.nd rfl (Or.inl rfl)) (fun _ _ _ _ _ => (pts_one (pt_cmpR op_ne (pe_ix (show IxR _ (rIxL K) from ix_list) (pv 5) (pv 9) (fun _ _ => rfl)) (pe_ix (show IxR _ (rIxL K) from ix_list) (pv 6) (pe_op op_mod (pv 9) (pv 7)) (fun _ _ => rfl)) (nomark _)))) (fun _ _ _ _ _ => (pv 9)))
       (pss_cons (ps_set (i := 10) sc_Lengths___init__.nd rfl (by first | exact Or.inl rfl | exact Or.inr rfl) (pe_ifExp (pt_truthQ (pv 8) (by intro _; rfl)) (pe_op op_add (pe_ix (show IxR _ (rIxL K) from ix_list) (pv 8) (pe_un un_neg pe_int) (fun _ _ => rfl)) pe_int) pe_int))
       (pss_cons (ps_expr (pe_call (ok_check_size T) (hr.mono (by decide)) (by rfl) T.g_check_size T.F_check_size.kp T.bd_check_size .nil pass0 (pa_cons (pv 10) (pa_cons (pv 7) pa_nil))))
       (pss_cons (ps_fld (pv 0) (pv 10) rfl)
       (pss_cons (ps_fld (pv 0) (pv 7) rfl)
       (pss_cons (ps_fld (pv 0) (pe_callTy c_tupQ (by rfl) T.b_tuple (by decide +kernel) (pa_cons (pe_lc (own := [("n", 9)]) (g := gName 9) (by rfl) sc_Lengths___init__.nd (pi_range1 (by rfl) T.b_range (pa_cons (pv 10) pa_nil)) (blkOk_by (own := [("n", 9)]) (N := ["self", "start", "low", "period", "rests", "near", "turn", "step", "astray", "n", "begin"]) (sc := defScope s_Lengths___init__) (by decide +kernel)) (fun _ _ _ _ _ => pg_name (i := 9) sc_Lengths___init__.nd rfl (Or.inl rfl)) (fun _ _ _ _ _ => (pts_one (pt_val (pe_ix (show IxR _ (rIxL K) from ix_list) (pv 5) (pv 9) (fun _ _ => rfl))))) (fun _ _ _ _ _ => (pv 9))) pa_nil)) rfl)
       (pss_cons (ps_fld (pv 0) (pe_callTy c_tupQ (by rfl) T.b_tuple (by decide +kernel) (pa_cons (pe_lc (own := [("n", 9)]) (g := gName 9) (by rfl) sc_Lengths___init__.nd (pi_range1 (by rfl) T.b_range (pa_cons (pv 7) pa_nil)) (blkOk_by (own := [("n", 9)]) (N := ["self", "start", "low", "period", "rests", "near", "turn", "step", "astray", "n", "begin"]) (sc := defScope s_Lengths___init__) (by decide +kernel)) (fun _ _ _ _ _ => pg_name (i := 9) sc_Lengths___init__.nd rfl (Or.inl rfl)) (fun _ _ _ _ _ => (pts_one (pt_val (pe_ix (show IxR _ (rIxL K) from ix_list) (pv 6) (pv 9) (fun _ _ => rfl))))) (fun _ _ _ _ _ => (pv 9))) pa_nil)) rfl)
       (pss_one (ps_fld (pv 0) (pe_callTy c_tupQ (by rfl) T.b_tuple (by decide +kernel) (pa_cons (pe_op op_cat (pe_slice (show SlR _ (rSlL K) from sl_list) (pv 5) po_none (po_some (pv 10))) (pe_lc (own := [("n", 9)]) (g := gName 9) (by rfl) sc_Lengths___init__.nd (pi_range2 (by rfl) T.b_range (pa_cons (pv 10) (pa_cons (pe_op op_add (pv 10) (pv 7)) pa_nil))) (blkOk_by (own := [("n", 9)]) (N := ["self", "start", "low", "period", "rests", "near", "turn", "step", "astray", "n", "begin"]) (sc := defScope s_Lengths___init__) (by decide +kernel)) (fun _ _ _ _ _ => pg_name (i := 9) sc_Lengths___init__.nd rfl (Or.inl rfl)) (fun _ _ _ _ _ => pts_nil) (fun _ _ _ _ _ => (pe_ix (show IxR _ (rIxL K) from ix_list) (pv 6) (pe_op op_mod (pv 9) (pv 7)) (fun _ _ => rfl))))) pa_nil)) rfl))))))))))))), ?_⟩
    refine body_of (pure_start ex nt) ?_
    have cL := T.cl_Lengths
    have hturn : (maskOf p ys).length = p := mask_len _ _
    have hnear : (maskOf st xs).length = st := mask_len _ _
    have hpos := leastP_pos (t := maskOf p ys) (by rw [hturn]; exact ar.p1)
    have hle := leastP_le (maskOf p ys)
    have hb1 := (begin_spec (maskOf st xs) (maskOf p ys) (leastP (maskOf p ys))).1
    walk_at "wi"
    refine w_call mo_parts err_no ?_
    walk_at "w"
    refine ⟨_, _, st, p, xs, ys, rfl, ar, fun k1 e1 => ?_⟩
    walk_at "wi"
    refine w_call mo_marked err_no ?_
    walk_at "w"
    refine ⟨st, _, xs, rfl, SeqV.ext e1 ar.vx, ar.lx, (by have := ar.s1; omega), ar.mx, fun qn k2 e2 f2 hn2 => ?_⟩
    walk_at "wi"
    refine w_call mo_marked err_no ?_
    walk_at "w"
    refine ⟨p, _, ys, rfl, SeqV.ext e2 (SeqV.ext e1 ar.vy), ar.ly, (by have := ar.p2; omega), ar.my, fun qt k3 e3 f3 hn3 => ?_⟩
    walk_at "wi"
    refine w_call mo_least err_no ?_
    walk_at "w"
    refine ⟨qt, _, rfl, hn3, (by rw [hturn]; exact ar.p1), (by rw [hturn]; have := ar.p2; omega), fun k4 e4 => ?_⟩
    have hne : qn ≠ a := fun z => by have := e1 _ _ ha; rw [← z, f2] at this; cases this
    have hte : qt ≠ a := fun z => by have := e2 _ _ (e1 _ _ ha); rw [← z, f3] at this; cases this
    have K4 : KE a kn k4 := KE.rf.ext (ext_tr e1 (ext_tr e2 (ext_tr e3 e4)))
    have A4 := e4 _ _ (e3 _ _ (e2 _ _ (e1 _ _ ha)))
    have N4 := e4 _ _ (e3 _ _ hn2)
    have T4 := e4 _ _ hn3
    clear e1 e2 e3 e4 f2 f3 hn2 hn3
    obtain ⟨sP, hsP⟩ : ∃ sP, sP = leastP (maskOf p ys) := ⟨_, rfl⟩
    obtain ⟨near, hN⟩ : ∃ near, near = maskOf st xs := ⟨_, rfl⟩
    obtain ⟨turn, hT⟩ : ∃ turn, turn = maskOf p ys := ⟨_, rfl⟩
    unfold formN formT at h
    rw [← hT] at hturn hpos hle hb1 hsz h hsP T4 ⊢
    rw [← hN] at hnear hb1 hsz h N4
    rw [← hsP] at hpos hle hb1 hsz h ⊢
    have s1 := ar.s1
    have p2 := ar.p2
    clear hsP hN hT ar
    walk_at "wi"
    refine w_lcP (i_rng1 ?_)
    walk_at "w"
    refine ⟨by omega, by omega, ?_⟩
    rw [Int.toNat_natCast]
    refine ⟨_, (fun _ => True), (fun v => v), pAst near turn sP, gives_rng, by rw [List.length_map, List.length_range]; omega, fun _ _ => trivial, fun x hx k ek => ?_, fun D hD => ?_⟩
    · obtain ⟨i, hi, rfl⟩ := List.mem_map.1 hx
      have hi := List.mem_range.1 hi
      rw [Int.zero_add]
      walk_at "w"
      refine ⟨rfl, ?_⟩
      walk_at "w"
      refine r_ixL (ek _ _ N4) (at_bl (by omega)) ?_
      walk_at "w"
      refine r_I (by omega) ?_
      show W _ _ _ _ _
      rw [show ((i : Nat) : Int) % ((sP : Nat) : Int) = ((i % sP : Nat) : Int) from rfl]
      refine r_ixL (ek _ _ T4) (at_bl (by have := Nat.mod_lt i hpos; omega)) ?_
      walk_at "w"
      · exact bl_ne
      · refine ⟨rfl, fun _ => ?_⟩
        walk_at "w"
        all_goals first | exact ⟨rfl, rfl, rfl⟩ | exact ⟨rfl, rfl⟩ | rfl
    · rw [rng_filter (P := fun i => ix near i != ix turn (i % sP)) (fun i hi => by rw [Int.zero_add]; rfl), List.map_id']
      have hA : List.filter (fun i => ix near i != ix turn (i % sP)) (List.range st) = astray near turn sP := by unfold astray; rw [hnear]
      rw [hA]
      have K5 := K4.ext (ext_new (o := .lst (natV (astray near turn sP))) hD)
      have A5 := know (o := .lst (natV (astray near turn sP))) hD A4
      have N5 := know (o := .lst (natV (astray near turn sP))) hD N4
      have T5 := know (o := .lst (natV (astray near turn sP))) hD T4
      have D5 : (upd k4 D (.lst (natV (astray near turn sP)))) D = some (.lst (natV (astray near turn sP))) := upd_same
      generalize upd k4 D (.lst (natV (astray near turn sP))) = k5 at K5 A5 N5 T5 D5 ⊢
      clear hD K4 A4 N4 T4
      obtain ⟨bg, hbg⟩ : ∃ bg, bg = beginOf near turn sP := ⟨_, rfl⟩
      refine s_seq ?_
      refine s_join (fun σ' k' n' => k' = k5 ∧ n' = 0 ∧ σ' = [some (.ref a), some (.int st), some (.ref a1), some (.int p), some (.ref a2), some (.ref qn), some (.ref qt), some (.int sP), some (.ref D), none, some (.int bg)]) ?_ ?_
      · walk_at "wi"
        refine w_tru ?_
        walk_at "w"
        refine ⟨D, _, rfl, .inl D5, ?_⟩
        rcases begin_last (near := near) (turn := turn) (s := sP) with ⟨h0, h1⟩ | ⟨zs, m, h0, h1⟩
        · rw [h0, hbg, h1]
          refine ⟨fun z => absurd z (by decide), fun _ => ?_⟩
          walk_at "wi"
          all_goals first | exact ⟨rfl, rfl, rfl⟩ | exact ⟨rfl, rfl⟩ | rfl
        · rw [h0] at D5
          rw [h0, hbg, h1]
          refine ⟨fun _ => ?_, fun z => ?_⟩
          · walk_at "wi"
            refine r_ixL D5 at_last ?_
            walk_at "wi"
            all_goals first | exact ⟨rfl, rfl, rfl⟩ | exact ⟨rfl, rfl⟩ | rfl
          · simp [natV] at z
      · rintro σ' k' n' ⟨hk', rfl, rfl⟩
        obtain rfl : k5 = k' := hk'.symm
        clear hk'
        rw [← hbg] at hb1 hsz h
        clear D5 hbg
        walk_at "wi"
        refine w_call mo_size err_no ?_
        walk_at "w"
        refine ⟨_, _, rfl, (by omega), ?_⟩
        walk_at "wi"
        refine ⟨_, _, _, _, rfl, A5, cL, T.na_Lengths__start, by decide, ?_⟩
        have A6 : (upd k5 a (.ins T.c_Lengths dx (putF "_start" (.int bg) []))) a = some (.ins T.c_Lengths dx [("_start", .int bg)]) := upd_same
        have K6 := K5.put (o := .ins T.c_Lengths dx (putF "_start" (.int bg) []))
        have N6 : (upd k5 a (.ins T.c_Lengths dx (putF "_start" (.int bg) []))) qn = _ := (upd_ne hne).trans N5
        have T6 : (upd k5 a (.ins T.c_Lengths dx (putF "_start" (.int bg) []))) qt = _ := (upd_ne hte).trans T5
        generalize upd k5 a (.ins T.c_Lengths dx (putF "_start" (.int bg) [])) = k6 at A6 K6 N6 T6 ⊢
        clear A5 K5 N5 T5
        walk_at "wi"
        refine ⟨_, _, _, _, rfl, A6, cL, T.na_Lengths__period, (show 1 < 1000 by decide), ?_⟩
        have A7 : (upd k6 a (.ins T.c_Lengths dx (putF "_period" (.int sP) [("_start", .int bg)]))) a = some (.ins T.c_Lengths dx [("_start", .int bg), ("_period", .int sP)]) := upd_same
        have K7 := K6.put (o := .ins T.c_Lengths dx (putF "_period" (.int sP) [("_start", .int bg)]))
        have N7 : (upd k6 a (.ins T.c_Lengths dx (putF "_period" (.int sP) [("_start", .int bg)]))) qn = _ := (upd_ne hne).trans N6
        have T7 : (upd k6 a (.ins T.c_Lengths dx (putF "_period" (.int sP) [("_start", .int bg)]))) qt = _ := (upd_ne hte).trans T6
        generalize upd k6 a (.ins T.c_Lengths dx (putF "_period" (.int sP) [("_start", .int bg)])) = k7 at A7 K7 N7 T7 ⊢
        clear A6 K6 N6 T6
        refine s_seq (s_fld ?_)
        refine w_tupIx (q := qn) (t := near) rfl (fun _ => rfl) (fun _ => rfl) (fun _ => rfl) N7 (by omega) (by omega) fun l1 k8 e8 f8 h8 => ?_
        walk_at "wi"
        have A8 := e8 _ _ A7
        have d1 : l1 ≠ a := fun z => by rw [z, A7] at f8; cases f8
        refine ⟨_, _, _, _, rfl, A8, cL, T.na_Lengths__low, (show 2 < 1000 by decide), ?_⟩
        have A9 : (upd k8 a (.ins T.c_Lengths dx (putF "_low" (.ref l1) [("_start", .int bg), ("_period", .int sP)]))) a = some (.ins T.c_Lengths dx [("_start", .int bg), ("_period", .int sP), ("_low", .ref l1)]) := upd_same
        have K9 := (K7.ext e8).put (o := .ins T.c_Lengths dx (putF "_low" (.ref l1) [("_start", .int bg), ("_period", .int sP)]))
        have N9 : (upd k8 a (.ins T.c_Lengths dx (putF "_low" (.ref l1) [("_start", .int bg), ("_period", .int sP)]))) qn = _ := (upd_ne hne).trans (e8 _ _ N7)
        have T9 : (upd k8 a (.ins T.c_Lengths dx (putF "_low" (.ref l1) [("_start", .int bg), ("_period", .int sP)]))) qt = _ := (upd_ne hte).trans (e8 _ _ T7)
        have L9 : (upd k8 a (.ins T.c_Lengths dx (putF "_low" (.ref l1) [("_start", .int bg), ("_period", .int sP)]))) l1 = _ := (upd_ne d1).trans h8
        generalize upd k8 a (.ins T.c_Lengths dx (putF "_low" (.ref l1) [("_start", .int bg), ("_period", .int sP)])) = k9 at A9 K9 N9 T9 L9 ⊢
        clear A7 K7 N7 T7 A8 e8 f8 h8
        refine s_seq (s_fld ?_)
        refine w_tupIx (q := qt) (t := turn) rfl (fun _ => rfl) (fun _ => rfl) (fun _ => rfl) T9 (by omega) (by omega) fun l2 k10 e10 f10 h10 => ?_
        walk_at "wi"
        have A10 := e10 _ _ A9
        have d2 : l2 ≠ a := fun z => by rw [z, A9] at f10; cases f10
        refine ⟨_, _, _, _, rfl, A10, cL, T.na_Lengths__rests, (show 3 < 1000 by decide), ?_⟩
        have A11 : (upd k10 a (.ins T.c_Lengths dx (putF "_rests" (.ref l2) [("_start", .int bg), ("_period", .int sP), ("_low", .ref l1)]))) a = some (.ins T.c_Lengths dx [("_start", .int bg), ("_period", .int sP), ("_low", .ref l1), ("_rests", .ref l2)]) := upd_same
        have K11 := (K9.ext e10).put (o := .ins T.c_Lengths dx (putF "_rests" (.ref l2) [("_start", .int bg), ("_period", .int sP), ("_low", .ref l1)]))
        have N11 : (upd k10 a (.ins T.c_Lengths dx (putF "_rests" (.ref l2) [("_start", .int bg), ("_period", .int sP), ("_low", .ref l1)]))) qn = _ := (upd_ne hne).trans (e10 _ _ N9)
        have T11 : (upd k10 a (.ins T.c_Lengths dx (putF "_rests" (.ref l2) [("_start", .int bg), ("_period", .int sP), ("_low", .ref l1)]))) qt = _ := (upd_ne hte).trans (e10 _ _ T9)
        have L11 : (upd k10 a (.ins T.c_Lengths dx (putF "_rests" (.ref l2) [("_start", .int bg), ("_period", .int sP), ("_low", .ref l1)]))) l1 = _ := (upd_ne d1).trans (e10 _ _ L9)
        have M11 : (upd k10 a (.ins T.c_Lengths dx (putF "_rests" (.ref l2) [("_start", .int bg), ("_period", .int sP), ("_low", .ref l1)]))) l2 = _ := (upd_ne d2).trans h10
        generalize upd k10 a (.ins T.c_Lengths dx (putF "_rests" (.ref l2) [("_start", .int bg), ("_period", .int sP), ("_low", .ref l1)])) = k11 at A11 K11 N11 T11 L11 M11 ⊢
        clear A9 K9 N9 T9 L9 A10 e10 f10 h10
        refine s_fld ?_
        walk_at "wi"
        refine r_slL N11 fun b1 hb1 => ?_
        rw [cut_hi, ← List.map_take]
        have S12 : (upd k11 b1 (.lst (blV (near.take bg)))) b1 = some (.lst (blV (near.take bg))) := upd_same
        have e12 : Ext k11 (upd k11 b1 (.lst (blV (near.take bg)))) := ext_new hb1
        generalize upd k11 b1 (.lst (blV (near.take bg))) = k12 at S12 e12 ⊢
        walk_at "wi"
        refine w_lcP (i_rng2 ?_)
        walk_at "w"
        refine ⟨_, _, rfl, ⟨by omega, by omega, by omega, by omega⟩, ?_⟩
        rw [show ((bg : Int) + (sP : Int) - (bg : Int)).toNat = sP by omega]
        refine ⟨_, (fun _ => True), fIx turn sP, (fun _ => true), gives_rng, by rw [List.length_map, List.length_range]; omega, fun _ _ => trivial, fun x hx k ek => ?_, fun D2 hD2 => ?_⟩
        · obtain ⟨i, hi, rfl⟩ := List.mem_map.1 hx
          rw [show (bg : Int) + ((i : Nat) : Int) = ((bg + i : Nat) : Int) by omega]
          walk_at "w"
          refine ⟨rfl, w_yesT ?_⟩
          refine ⟨rfl, rfl, rfl, fun _ => ?_⟩
          walk_at "w"
          refine r_I (by omega) ?_
          rw [show ((bg + i : Nat) : Int) % ((sP : Nat) : Int) = (((bg + i) % sP : Nat) : Int) from rfl]
          refine r_ixL (ek _ _ (e12 _ _ T11)) (at_bl (by have := Nat.mod_lt (bg + i) hpos; omega)) ?_
          exact ⟨rfl, rfl, rfl⟩
        · rw [show List.map (fIx turn sP) (List.filter (fun _ => true) ((List.range sP).map fun (i : Nat) => V.int ((bg : Int) + (i : Int)))) = blV ((List.range sP).map fun i => ix turn ((bg + i) % sP)) by
            rw [List.filter_eq_self.2 (fun _ _ => rfl), List.map_map]
            unfold blV
            rw [List.map_map]
            apply List.map_congr_left
            intro i _
            show fIx turn sP (.int ((bg : Int) + (i : Int))) = _
            rw [show (bg : Int) + ((i : Nat) : Int) = ((bg + i : Nat) : Int) by omega]
            rfl]
          have S13 := know (o := .lst (blV ((List.range sP).map fun i => ix turn ((bg + i) % sP)))) hD2 S12
          have e13 := ext_tr e12 (ext_new (o := .lst (blV ((List.range sP).map fun i => ix turn ((bg + i) % sP)))) hD2)
          have U13 : (upd k12 D2 (.lst (blV ((List.range sP).map fun i => ix turn ((bg + i) % sP))))) D2 = some (.lst (blV ((List.range sP).map fun i => ix turn ((bg + i) % sP)))) := upd_same
          generalize upd k12 D2 (.lst (blV ((List.range sP).map fun i => ix turn ((bg + i) % sP)))) = k13 at S13 e13 U13 ⊢
          walk_at "w"
          refine r_cat S13 U13 (by rw [List.length_map, List.length_map, List.length_map, List.length_range, List.length_take]; omega) fun b3 hb3 => ?_
          rw [← List.map_append, marks_take (by omega) hle hpos]
          walk_at "w"
          refine r_tupL upd_same fun b4 hb4 => ?_
          walk_at "w"
          have e15 := ext_tr e13 (ext_tr (ext_new (o := .lst (blV (marks (near.take bg) (turn.take sP)))) hb3) (ext_new (o := .tup (blV (marks (near.take bg) (turn.take sP)))) hb4))
          have d4 : b4 ≠ a := fun z => by
            have := (ext_tr e13 (ext_new (o := .lst (blV (marks (near.take bg) (turn.take sP)))) hb3)) _ _ A11
            rw [z, this] at hb4
            cases hb4
          have V15 : (upd (upd k13 b3 (.lst (blV (marks (near.take bg) (turn.take sP))))) b4 (.tup (blV (marks (near.take bg) (turn.take sP))))) b4 = some (.tup (blV (marks (near.take bg) (turn.take sP)))) := upd_same
          generalize upd (upd k13 b3 (.lst (blV (marks (near.take bg) (turn.take sP))))) b4 (.tup (blV (marks (near.take bg) (turn.take sP)))) = k15 at e15 V15 ⊢
          refine ⟨_, _, _, _, rfl, e15 _ _ A11, cL, T.na_Lengths__marks, (show 4 < 1000 by decide), ?_⟩
          walk_at "wi"
          refine fun H' g' => h _ ((K11.ext e15).put) ⟨l1, l2, b4, ?_, (upd_ne d1).trans (e15 _ _ L11), (upd_ne d2).trans (e15 _ _ M11), (upd_ne d4).trans V15⟩ 0 H' g'
          rw [upd_same, List.length_take, List.length_take, Nat.min_eq_left (by omega), Nat.min_eq_left hle]
          rfl
end
end L

end NN

namespace NN
open PySem PySem.Spec PyProof.Rows L2 LamX AW ClX
open Tx1 Ln
namespace L
/-! ### made, compared, written -/
/-- arguments whose form is small enough -/
def Small (st p : Nat) (xs ys : List Nat) : Prop := beginOf (maskOf st xs) (maskOf p ys) (leastP (maskOf p ys)) + leastP (maskOf p ys) ≤ 400
theorem form_small {K : PySem.W.Frag} {kn : Hp} {lo re : V} {st p : Nat} {xs ys : List Nat} (ar : Args4 K kn lo re st p xs ys) (h : Small st p xs ys) : Form (formN st p xs ys) (formT p ys) := form_of (by rw [mask_len]; exact ar.p1) h
theorem Args4.ext {K : PySem.W.Frag} {kn k : Hp} {lo re : V} {st p : Nat} {xs ys : List Nat} (e : Ext kn k) (ar : Args4 K kn lo re st p xs ys) : Args4 K k lo re st p xs ys :=
  ⟨ar.s1, ar.p1, ar.p2, ar.lx, ar.ly, ar.mx, ar.my, SeqV.ext e ar.vx, SeqV.ext e ar.vy⟩
/-- Lengths(..), the values behind it by default -/
theorem w_len {K : PySem.W.Frag} {c : Cw} {kn : Hp} {n : Nat} {σ : L2.St} {Q : V → Hp → Nat → Prop} {E : XK} {C : Addr} {dvs : List V} {t : TA}
    (h : W c (t σ) kn n fun vs kn1 n1 => ∃ (lo re : V) (st p : Nat) (xs ys : List Nat), vs ++ dvs = [.int st, lo, .int p, re] ∧ Args4 K kn1 lo re st p xs ys ∧ Small st p xs ys ∧ NewL C kn1 (formN st p xs ys) (formT p ys) fun v k => Q v k n1) : W c (tMake C (liftX (bInit K C)) dvs E t σ) kn n Q :=
  fun H g Q' q => h H g _ fun vs kn1 n1 H1 ⟨lo, re, st, p, xs, ys, ev, ar, sm, h1⟩ g1 => fun x dx hx hdx hne => by
    have hx2 : upd H1 dx (.own x) x = none := by rw [upd_ne (Ne.symm hne)]; exact hx
    have kx := g1.free hx
    have kdx := g1.free hdx
    have kx2 : upd kn1 dx (.own x) x = none := by rw [upd_ne (Ne.symm hne)]; exact kx
    have e2 : Ext kn1 (upd (upd kn1 dx (.own x)) x (.ins C dx [])) := ext_tr (ext_new kdx) (ext_new kx2)
    rw [ev]
    refine sp_call (EA := fun _ _ _ _ => False) (c := c) (n := n1) (Q := fun v kn2 n2 => v = .non ∧ Q (.ref x) kn2 n2) mo_init (fun _ _ _ _ _ z => z.elim) ⟨x, dx, lo, re, st, p, xs, ys, rfl, upd_same, ar.ext e2, sm, fun k' ke hk => ⟨rfl, h1 x k' (fun y o hy => ?_) kx ?_⟩⟩ _ ((g1.new hdx).new hx2) (fun v H2 => v = .non ∧ Q' (.ref x) H2)
      (fun v kn2 n2 H2 hq g2 => ⟨hq.1, q _ _ _ _ hq.2 g2⟩)
    · exact ke y o (fun z => by rw [z, kx] at hy; cases hy) (e2 y o hy)
    · obtain ⟨q1, q2, q3, z1, z2, z3, z4⟩ := hk
      exact ⟨⟨dx, q1, q2, q3, z1, z2, z3, z4⟩, form_small ar sm⟩
def bField (C : Addr) (f : Nat → Nat → Addr → Addr → V) : List V → Hp → AK → AXK → Prop := fun vs kn Q _ => ∃ a nr tn dx q1 q2 q3, vs = [.ref a] ∧ kn a = some (.ins C dx (lenF nr tn q1 q2 q3)) ∧ Q (f nr tn q1 q2) kn
theorem mo_field {C : Addr} {f : Nat → Nat → Addr → Addr → V} : MonoX (bField C f) := by
  rintro vs kn Q R E F h1 h2 ⟨a, nr, tn, dx, q1, q2, q3, b, c, h⟩
  exact ⟨a, nr, tn, dx, q1, q2, q3, b, c, h1 _ _ h⟩
def bEq (C : Addr) : List V → Hp → AK → AXK → Prop := fun vs kn Q _ => ∃ a b nr tn nr' tn', vs = [.ref a, .ref b] ∧ LenAt C kn a nr tn ∧ LenAt C kn b nr' tn' ∧ Q (.bl (decide (nr = nr' ∧ tn = tn'))) kn
theorem mo_eq {C : Addr} : MonoX (bEq C) := by
  rintro vs kn Q R E F h1 h2 ⟨a, b, nr, tn, nr', tn', x, y, z, h⟩
  exact ⟨a, b, nr, tn, nr', tn', x, y, z, h1 _ _ h⟩
def IsNextL (nr tn : List Bool) (n : Nat) (v : V) : Prop := (∃ k : Nat, n ≤ k ∧ inL nr tn (k : Int) = true ∧ (∀ l : Nat, n ≤ l → l < k → inL nr tn (l : Int) = false) ∧ v = .int k) ∨ ((∀ k : Nat, n ≤ k → inL nr tn (k : Int) = false) ∧ v = .non)
theorem next_all {nr tn : List Bool} {n m : Nat} (tp : 0 < tn.length) (h1 : n ≤ m) (h2 : nr.length ≤ m) (h : ∀ l : Nat, n ≤ l → l < m + tn.length → inL nr tn (l : Int) = false) (k : Nat) (hk : n ≤ k) : inL nr tn (k : Int) = false := by
  rcases Nat.lt_or_ge k (m + tn.length) with z | z
  · exact h k hk z
  · have md := Nat.mod_lt (k - m) tp
    have e : k = (m + (k - m) % tn.length) + (k - m) / tn.length * tn.length := by
      have := Nat.mod_add_div (k - m) tn.length
      rw [Nat.mul_comm] at this
      omega
    rw [e, inL_add (by omega) (Nat.dvd_mul_left _ _)]
    exact h _ (by omega) (by omega)
def bNum : List V → Hp → AK → AXK → Prop := fun vs kn Q _ => ∃ n : Nat, vs = [.int n] ∧ Q .non kn
theorem mo_num : MonoX bNum := by
  rintro vs kn Q R E F h1 h2 ⟨n, a, h⟩
  exact ⟨n, a, h1 _ _ h⟩
def bAtL (C : Addr) : List V → Hp → AK → AXK → Prop := fun vs kn Q _ => ∃ a nr tn, ∃ n : Nat, vs = [.ref a, .int n] ∧ LenAt C kn a nr tn ∧ ∀ v, IsNextL nr tn n v → Q v kn
theorem mo_atL {C : Addr} : MonoX (bAtL C) := by
  rintro vs kn Q R E F h1 h2 ⟨a, nr, tn, n, b, c, h⟩
  exact ⟨a, nr, tn, n, b, c, fun v z => h1 _ _ (h v z)⟩
/-! ### which numbers are in -/
def bHas (K : PySem.W.Frag) (C : Addr) : List V → Hp → AK → AXK → Prop := fun vs kn Q _ => ∃ a x nr tn, vs = [.ref a, x] ∧ LenAt C kn a nr tn ∧ ((∃ i, x = .int i ∧ Q (.bl (inL nr tn i)) kn) ∨ (Odd K kn x ∧ Q (.bl false) kn))
theorem mo_has {K : PySem.W.Frag} {C : Addr} : MonoX (bHas K C) := by
  rintro vs kn Q R E F h1 h2 ⟨a, x, nr, tn, b, c, ⟨i, e, h⟩ | ⟨o, h⟩⟩
  · exact ⟨a, x, nr, tn, b, c, .inl ⟨i, e, h1 _ _ h⟩⟩
  · exact ⟨a, x, nr, tn, b, c, .inr ⟨o, h1 _ _ h⟩⟩
theorem w_notT {c : Cw} {kn : Hp} {n : Nat} {σ : L2.St} {Q : V → Hp → Nat → Prop} {K : PySem.W.Frag} {ta : TE} (h : W c (ta σ) kn n fun x kn1 n1 => ∃ a xs, x = .ref a ∧ kn1 a = some (.tup xs) ∧ Q (.bl xs.isEmpty) kn1 n1) : W c (tNotT K ta σ) kn n Q :=
  fun H g Q' q => h H g _ fun x kn1 n1 H1 ⟨a, xs, e, hx, hq⟩ g1 => by
    subst e
    refine ⟨!xs.isEmpty, .inr (.inl ⟨xs, sqt (g1.ex _ _ hx), rfl⟩), ?_⟩
    rw [Bool.not_not]
    exact q _ _ _ _ hq g1
section
variable {P : Program} {w : World} {K : PySem.W.Frag} {mg : Str → Option Value} {base : Heap}
theorem ok_Lengths_start (T : Tx K mg) : FnOk P w K mg base CX0 1 T.f_Lengths_start T.d_Lengths_start ["self"] (liftX (bField T.c_Lengths fun b _ _ _ => .int b)) := by
  refine T.F_Lengths_start.ok sc_Lengths_start (fun vs H Q E h => ?_) (fun cdv A outer s H vs Q E hr h => ?_)
  · obtain ⟨kn, _, _, a, nr, tn, dx, q1, q2, q3, rfl, _⟩ := h
    rfl
  · obtain ⟨kn, ex, nt, a, nr, tn, dx, q1, q2, q3, rfl, ha, h⟩ := h
    refine ⟨_, (pss_one (ps_ret (pe_fld (pv 0) rfl))), ?_⟩
    refine body_of (pure_start ex nt) ?_
    exact s_ret (w_fld (w_var rfl ⟨_, _, _, _, _, rfl, ha, T.cl_Lengths, T.na_Lengths__start, rfl, h 0⟩))
theorem ok_Lengths_period (T : Tx K mg) : FnOk P w K mg base CX0 1 T.f_Lengths_period T.d_Lengths_period ["self"] (liftX (bField T.c_Lengths fun _ s _ _ => .int s)) := by
  refine T.F_Lengths_period.ok sc_Lengths_period (fun vs H Q E h => ?_) (fun cdv A outer s H vs Q E hr h => ?_)
  · obtain ⟨kn, _, _, a, nr, tn, dx, q1, q2, q3, rfl, _⟩ := h
    rfl
  · obtain ⟨kn, ex, nt, a, nr, tn, dx, q1, q2, q3, rfl, ha, h⟩ := h
    refine ⟨_, (pss_one (ps_ret (pe_fld (pv 0) rfl))), ?_⟩
    refine body_of (pure_start ex nt) ?_
    exact s_ret (w_fld (w_var rfl ⟨_, _, _, _, _, rfl, ha, T.cl_Lengths, T.na_Lengths__period, rfl, h 0⟩))
theorem ok_Lengths___eq__ (T : Tx K mg) : FnOk P w K mg base CX0 1 T.f_Lengths___eq__ T.d_Lengths___eq__ ["self", "other"] (liftX (bEq T.c_Lengths)) := by
  refine T.F_Lengths___eq__.ok sc_Lengths___eq__ (fun vs H Q E h => ?_) (fun cdv A outer s H vs Q E hr h => ?_)
  · obtain ⟨kn, _, _, a, b, nr, tn, nr', tn', rfl, _⟩ := h
    rfl
  · obtain ⟨kn, ex, nt, a, b, nr, tn, nr', tn', rfl, ⟨⟨dx, q1, q2, q3, z1, z2, z3, z4⟩, F1⟩, ⟨⟨dx', q1', q2', q3', y1, y2, y3, y4⟩, F2⟩, h⟩ := h
    refine ⟨_, (pss_one (ps_ret (pe_and (pe_callB call_isi (by rfl) T.b_isinstance (by decide +kernel) (pa_cons (pv 1) (pa_cons (pe_glob (v := .ref T.c_Lengths) (by rfl) T.g_Lengths rfl) pa_nil))) (pe_and (pe_cmpR op_eq (pe_fld (pv 0) rfl) (pe_fld (pv 1) rfl) (nomark _)) (pe_one (pe_cmpR (show OpR _ _ (rEqD K) from op_eqD hr.units) (pe_fld (pv 0) rfl) (pe_fld (pv 1) rfl) (nomark _))))))), ?_⟩
    refine body_of (pure_start ex nt) ?_
    have cL := T.cl_Lengths
    walk_at "wi"
    refine r_isi (.own _) (T.own_Lengths.ty y1) T.kit_Lengths ?_
    walk_at "wi"
    refine w_fld (w_var rfl ⟨_, _, _, _, _, rfl, z1, cL, T.na_Lengths__start, rfl, ?_⟩)
    refine w_fld (w_var rfl ⟨_, _, _, _, _, rfl, y1, cL, T.na_Lengths__start, rfl, ?_⟩)
    walk_at "wi"
    rw [int_eq]
    refine ⟨fun hb => ?_, fun hb => ?_⟩
    · have hb : nr.length = nr'.length := by have := of_decide_eq_true hb; omega
      walk_at "wi"
      refine w_fld (w_var rfl ⟨_, _, _, _, _, rfl, z1, cL, T.na_Lengths__marks, rfl, ?_⟩)
      refine w_fld (w_var rfl ⟨_, _, _, _, _, rfl, y1, cL, T.na_Lengths__marks, rfl, ?_⟩)
      walk_at "wi"
      refine r_eq_d (.tup (sqt z4) (dp_bls _)) (.tup (sqt y4) (dp_bls _)) (shaped_blT _) (shaped_blT _) ?_
      rw [eqv_blT]
      have e : decide (marks nr tn = marks nr' tn') = decide (nr = nr' ∧ tn = tn') := decide_eq_decide.2 ⟨fun e => marks_inj F1.pos hb e, fun e => by rw [e.1, e.2]⟩
      rw [e]
      exact h 0
    · have hb : ¬ nr.length = nr'.length := by have := of_decide_eq_false hb; omega
      have e : decide (nr = nr' ∧ tn = tn') = false := decide_eq_false fun z => hb (by rw [z.1])
      rw [e] at h
      exact h 0
theorem ok_Lengths___contains__ (T : Tx K mg) : FnOk P w K mg base CX0 2 T.f_Lengths___contains__ T.d_Lengths___contains__ ["self", "x"] (liftX (bHas K T.c_Lengths)) := by
  refine T.F_Lengths___contains__.ok sc_Lengths___contains__ (fun vs H Q E h => ?_) (fun cdv A outer s H vs Q E hr h => ?_)
  · obtain ⟨kn, _, _, a, x, nr, tn, rfl, _⟩ := h
    rfl
  · obtain ⟨kn, ex, nt, a, x, nr, tn, rfl, ⟨⟨dx, q1, q2, q3, z1, z2, z3, z4⟩, F⟩, h⟩ := h
    refine ⟨_, (pss_cons (ps_if (PW.pt (pw_or (pt_not (pt_val (pe_call (ok_is_whole T) (hr.mono (by decide)) (by rfl) T.g_is_whole T.F_is_whole.kp T.bd_is_whole .nil pass0 (pa_cons (pv 1) pa_nil)))) (pw_or1 (pt_cmpR op_lt (pv 1) pe_int (nomark _)))))
       (pss_one (ps_ret pe_bl))
       pss_nil)
       (pss_cons (ps_if (pt_cmpR op_lt (pv 1) (pe_fld (pv 0) rfl) (nomark _))
       (pss_one (ps_ret (pe_ix (show IxR _ (rIxT K) from ix_tup) (pe_fld (pv 0) rfl) (pv 1) (fun _ _ => rfl))))
       pss_nil)
       (pss_one (ps_ret (pe_ix (show IxR _ (rIxT K) from ix_tup) (pe_fld (pv 0) rfl) (pe_op op_add (pe_fld (pv 0) rfl) (pe_op op_mod (pe_op op_sub (pv 1) (pe_fld (pv 0) rfl)) (pe_fld (pv 0) rfl))) (fun _ _ => rfl)))))), ?_⟩
    refine body_of (pure_start ex nt) ?_
    have cL := T.cl_Lengths
    have tp := F.pos
    walk_at "wi"
    refine w_call mo_whole err_no ?_
    walk_at "w"
    refine ⟨_, rfl, ?_⟩
    rcases h with ⟨i, rfl, h⟩ | ⟨od, h⟩
    · refine .inl ⟨i, rfl, ?_⟩
      walk_at "wi"
      unfold inL at h
      refine ⟨fun hb => ?_, fun hb => ?_⟩
      · have hb := of_decide_eq_true hb
        rw [if_pos hb] at h
        walk_at "wi"
        exact h 0
      · have hb := of_decide_eq_false hb
        rw [if_neg hb] at h
        walk_at "wi"
        refine w_fld (w_var rfl ⟨_, _, _, _, _, rfl, z1, cL, T.na_Lengths__start, rfl, ?_⟩)
        walk_at "wi"
        refine ⟨fun hc => ?_, fun hc => ?_⟩
        · have hc := of_decide_eq_true hc
          rw [if_pos hc] at h
          walk_at "wi"
          refine w_fld (w_var rfl ⟨_, _, _, _, _, rfl, z1, cL, T.na_Lengths__marks, rfl, ?_⟩)
          obtain ⟨m, rfl⟩ : ∃ m : Nat, i = m := ⟨i.toNat, by omega⟩
          rw [Int.toNat_natCast] at h
          walk_at "wi"
          refine r_ixT z4 (at_bl (by rw [marks_len]; omega)) ?_
          rw [ix_marks_lo (by omega)]
          exact h 0
        · have hc := of_decide_eq_false hc
          rw [if_neg hc] at h
          walk_at "wi"
          refine w_fld (w_var rfl ⟨_, _, _, _, _, rfl, z1, cL, T.na_Lengths__marks, rfl, ?_⟩)
          refine w_op ?_
          refine w_fld (w_var rfl ⟨_, _, _, _, _, rfl, z1, cL, T.na_Lengths__start, rfl, ?_⟩)
          walk_at "wi"
          refine w_fld (w_var rfl ⟨_, _, _, _, _, rfl, z1, cL, T.na_Lengths__start, rfl, ?_⟩)
          walk_at "wi"
          refine w_fld (w_var rfl ⟨_, _, _, _, _, rfl, z1, cL, T.na_Lengths__period, rfl, ?_⟩)
          refine r_I (by omega) ?_
          walk_at "wi"
          obtain ⟨m, hm, hm2⟩ := mod_nat (i - (nr.length : Int)) tp
          rw [hm, ← Int.natCast_add]
          refine r_ixT z4 (at_bl (by rw [marks_len]; omega)) ?_
          rw [ix_marks_hi hm2, hi_eq hm]
          exact h 0
    · refine .inr ⟨od, ?_⟩
      walk_at "wi"
      exact h 0
theorem ok_check_number (T : Tx K mg) : FnOk P w K mg base CX0 2 T.f_check_number T.d_check_number ["value"] (liftX bNum) := by
  refine T.F_check_number.ok sc_check_number (fun vs H Q E h => ?_) (fun cdv A outer s H vs Q E hr h => ?_)
  · obtain ⟨kn, _, _, n, rfl, _⟩ := h
    rfl
  · obtain ⟨kn, ex, nt, n, rfl, h⟩ := h
    refine ⟨_, (pss_one (ps_if (PW.pt (pw_or (pt_not (pt_val (pe_call (ok_is_whole T) (hr.mono (by decide)) (by rfl) T.g_is_whole T.F_is_whole.kp T.bd_is_whole .nil pass0 (pa_cons (pv 0) pa_nil)))) (pw_or1 (pt_cmpR op_lt (pv 0) pe_int (nomark _)))))
       (pss_one ps_never)
       pss_nil)), ?_⟩
    refine body_of (pure_start ex nt) ?_
    walk_at "wi"
    refine w_call mo_whole err_no ?_
    walk_at "w"
    refine ⟨_, rfl, .inl ⟨_, rfl, ?_⟩⟩
    walk_at "wi"
    refine ⟨fun hb => ?_, fun hb => ?_⟩
    · have hb := of_decide_eq_true hb
      omega
    · walk_at "wi"
      exact h 0
theorem ok_Lengths_at_least (T : Tx K mg) : FnOk P w K mg base CX0 4 T.f_Lengths_at_least T.d_Lengths_at_least ["self", "n"] (liftX (bAtL T.c_Lengths)) := by
  refine T.F_Lengths_at_least.ok sc_Lengths_at_least (fun vs H Q E h => ?_) (fun cdv A outer s H vs Q E hr h => ?_)
  · obtain ⟨kn, _, _, a, nr, tn, n, rfl, _⟩ := h
    rfl
  · obtain ⟨kn, ex, nt, a, nr, tn, n, rfl, DA, h⟩ := h
    obtain ⟨dx, q1, q2, q3, z1, z2, z3, z4⟩ := DA.at_
    have F := DA.form
    refine ⟨_, (pss_cons (ps_expr (pe_call (ok_check_number T) (hr.mono (by decide)) (by rfl) T.g_check_number T.F_check_number.kp T.bd_check_number .nil pass0 (pa_cons (pv 1) pa_nil)))
       (pss_cons (ps_for PassesOwn.never rfl (pi_rangeA (prg_2 (by rfl) T.b_range (pv 1) (pe_op op_add (pe_callB (c_max2 rfl) (by rfl) T.b_max (by decide +kernel) (pa_cons (pe_callTy c_int (by rfl) T.b_int boot_int (pa_cons (pv 1) pa_nil)) (pa_cons (pe_fld (pv 0) rfl) pa_nil))) (pe_fld (pv 0) rfl)))) (pg_name (i := 2) sc_Lengths_at_least.nd rfl (by first | exact Or.inl rfl | exact Or.inr rfl))
       (pss_one (ps_if (pt_cmpR (op_inO T.sm_Lengths___contains__ (ok_Lengths___contains__ T) (hr.mono (by decide)) T.bd_Lengths___contains__ pass0) (pv 2) (pv 0) (by rfl))
       (pss_one (ps_ret (pv 2)))
       pss_nil)))
       (pss_one (ps_ret pe_non)))), ?_⟩
    refine body_of (pure_start ex nt) ?_
    have cL := T.cl_Lengths
    have tp := F.pos
    walk_at "wi"
    refine w_call mo_num err_no ?_
    walk_at "w"
    refine ⟨n, rfl, ?_⟩
    walk_at "wi"
    refine s_forJ (i_rgA ?_)
    walk_at "w"
    refine w_fld (w_var rfl ⟨_, _, _, _, _, rfl, z1, cL, T.na_Lengths__start, rfl, ?_⟩)
    walk_at "w"
    refine r_max2 ?_
    obtain ⟨m, hm, hm1, hm2⟩ : ∃ m : Nat, (if (nr.length : Int) > (n : Int) then (nr.length : Int) else (n : Int)) = m ∧ n ≤ m ∧ nr.length ≤ m := by
      by_cases z : (nr.length : Int) > (n : Int)
      · exact ⟨nr.length, by rw [if_pos z], by omega, by omega⟩
      · exact ⟨n, by rw [if_neg z], by omega, by omega⟩
    rw [hm]
    walk_at "w"
    refine w_fld (w_var rfl ⟨_, _, _, _, _, rfl, z1, cL, T.na_Lengths__period, rfl, ?_⟩)
    refine r_I0 ?_
    refine ⟨(n : Int), _, rfl, rfl, ?_⟩
    have hc : ((m : Int) + ((tn.length : Nat) : Int) - (n : Int)).toNat = m + tn.length - n := by omega
    rw [hc]
    refine ⟨_, (fun _ => True), fun j σ' k mm => mm = 0 ∧ k = kn ∧ (∃ y2, σ' = [some (.ref a), some (.int (n : Int)), y2]) ∧ ∀ l : Nat, n ≤ l → l < n + j → inL nr tn (l : Int) = false, gives_rng, ⟨rfl, rfl, ⟨_, rfl⟩, fun l hl hl2 => absurd hl2 (by omega)⟩, fun _ _ _ _ _ => trivial, ?_, ?_⟩
    · rintro j x σ' k mm hx ⟨rfl, rfl, ⟨y2, rfl⟩, hp⟩
      rw [List.getElem?_map] at hx
      obtain ⟨l, hl, rfl⟩ := Option.map_eq_some_iff.1 hx
      obtain ⟨hj1, hj2⟩ := List.getElem?_eq_some_iff.1 hl
      rw [List.length_range] at hj1
      rw [List.getElem_range] at hj2
      subst hj2
      walk_at "wi"
      refine r_inO mo_has z1 ⟨_, _, _, _, rfl, DA, .inl ⟨_, rfl, _, rfl, ?_⟩⟩
      rw [if_neg Bool.false_ne_true, ← Int.natCast_add]
      refine ⟨_, rfl, fun hb => ?_, fun hb => ?_⟩
      · walk_at "wi"
        exact h _ (.inl ⟨n + j, by omega, hb, hp, rfl⟩) 0
      · walk_at "wi"
        refine ⟨⟨_, rfl⟩, fun l hl hl2 => ?_⟩
        rcases Nat.lt_or_ge l (n + j) with z | z
        · exact hp l hl z
        · obtain rfl : l = n + j := by omega
          exact hb
    · rintro σ' k mm ⟨rfl, rfl, ⟨y2, rfl⟩, hp⟩
      rw [List.length_map, List.length_range] at hp
      walk_at "wi"
      exact h _ (.inr ⟨next_all tp hm1 hm2 fun l z1 z2 => hp l z1 (by omega), rfl⟩) 0
end
end L

end NN

namespace NN
open PySem PySem.Spec PyProof.Rows L2 LamX AW ClX
open Tx1 Ln
namespace L
/-! ### of, since, steps, none -/
/-- of(..), every(), none() -/
def bNew (C : Addr) (nr tn : List Bool) : List V → Hp → AK → AXK → Prop := fun vs kn Q _ => vs = [] ∧ NewL C kn nr tn Q
theorem mo_new {C : Addr} {nr tn : List Bool} : MonoX (bNew C nr tn) := by
  rintro vs kn Q R E F h1 h2 ⟨a, h⟩
  exact ⟨a, fun x k z1 z2 z3 => h1 _ _ (h x k z1 z2 z3)⟩
def bOf (C : Addr) : List V → Hp → AK → AXK → Prop := fun vs kn Q _ => ∃ (p : Addr) (xs : List Nat), vs = [.ref p] ∧ kn p = some (.tup (natV xs)) ∧ xs.length ≤ 1000 ∧ (∀ n ∈ xs, n ≤ 399) ∧ Small 400 1 xs [] ∧ NewL C kn (formN 400 1 xs []) (formT 1 []) Q
theorem mo_of {C : Addr} : MonoX (bOf C) := by
  rintro vs kn Q R E F h1 h2 ⟨p, xs, a, b, c, d, e, h⟩
  exact ⟨p, xs, a, b, c, d, e, fun x k z1 z2 z3 => h1 _ _ (h x k z1 z2 z3)⟩
theorem mask1 : maskOf 1 [] = [false] := rfl
theorem least1 : leastP [false] = 1 := by decide
theorem fin_T : formT 1 [] = [false] := by decide
def bSince (C : Addr) : List V → Hp → AK → AXK → Prop := fun vs kn Q _ => ∃ b : Nat, vs = [.int b] ∧ b ≤ 399 ∧ NewL C kn (formN b 1 [] [0]) (formT 1 [0]) Q
theorem mo_since {C : Addr} : MonoX (bSince C) := by
  rintro vs kn Q R E F h1 h2 ⟨b, e, z, h⟩
  exact ⟨b, e, z, fun x k z1 z2 z3 => h1 _ _ (h x k z1 z2 z3)⟩
theorem small_of {st p : Nat} {xs ys : List Nat} (h : st + p ≤ 400) : Small st p xs ys := by
  unfold Small
  have h1 := (begin_spec (maskOf st xs) (maskOf p ys) (leastP (maskOf p ys))).1
  have h2 := leastP_le (maskOf p ys)
  rw [mask_len] at h1 h2
  omega
section
variable {P : Program} {w : World} {K : PySem.W.Frag} {mg : Str → Option Value} {base : Heap}
theorem ok_Lengths_none (T : Tx K mg) : FnOk P w K mg base CX0 7 T.f_Lengths_none T.d_Lengths_none [] (liftX (bNew T.c_Lengths [] [false])) := by
  refine T.F_Lengths_none.ok sc_Lengths_none (fun vs H Q E h => ?_) (fun cdv A outer s H vs Q E hr h => ?_)
  · obtain ⟨kn, _, _, rfl, _⟩ := h
    rfl
  · obtain ⟨kn, ex, nt, rfl, h⟩ := h
    refine ⟨_, (pss_one (ps_ret (pe_make T.mk_Lengths (ok_Lengths___init__ T) (hr.mono (by decide)) (by rfl) T.g_Lengths (Classical.choose_spec T.bd1_Lengths).2 (Classical.choose_spec T.bd1_Lengths).1 pass0 (pa_cons pe_int pa_nil)))), ?_⟩
    refine body_of (pure_start ex nt) ?_
    walk_at "wi"
    refine w_len ?_
    walk_at "w"
    refine ⟨_, _, 0, 1, [], [], rfl, ⟨by decide, by decide, by decide, by decide, by decide, fun n hn => (by cases hn), fun n hn => (by cases hn), ⟨_, rfl, .inr (.inr T.kt_dl_Lengths___init__)⟩, ⟨_, rfl, .inr (.inr T.kt_dr_Lengths___init__)⟩⟩, (show _ ≤ 400 by decide), fun x k e n l => ?_⟩
    exact h x k e n l 0
theorem oR_Lengths_none (T : Tx K mg) : FnR P w K mg base CX0 7 T.f_Lengths_none (liftX (bNew T.c_Lengths [] [false])) :=
  ((ok_Lengths_none T).raw T.bd_Lengths_none .nil).imp fun vs H Q E h => by rw [List.append_nil]; exact h
theorem oR_Lengths_of (T : Tx K mg) : FnR P w K mg base CX0 8 T.f_Lengths_of (spStar 0 (bOf T.c_Lengths)) := by
  obtain ⟨oc, od, kV, doc, pm, an, cdv, ct, osl, hfd, lk, hcd⟩ := T.F_Lengths_of.ex
  rw [hfd] at lk
  refine StX.fn_star (ps := []) (pv := "numbers") lk hcd sc_Lengths_of StX.cxUp_none (fun us rest hl => ?_) (fun A outer s H vs Q E hr h => ?_)
  · obtain rfl := List.eq_nil_of_length_eq_zero hl
    cases rest with
    | nil => rfl
    | cons r rs => rfl
  · obtain ⟨kn, ex, nt, p, xs, rfl, hp, lx, hx, sm, h⟩ := h
    refine ⟨_, PSs.nox (pss_cons (ps_for PassesOwn.never rfl (pi_tup (pv 0)) (pg_name (i := 1) sc_Lengths_of.nd rfl (by first | exact Or.inl rfl | exact Or.inr rfl))
       (pss_one (ps_expr (pe_call (ok_check_argument T) (hr.mono (by decide)) (by rfl) T.g_check_argument T.F_check_argument.kp T.bd_check_argument .nil pass0 (pa_cons (pv 1) (pa_cons pe_int (pa_cons (pe_op op_sub (pe_cval (pe_glob (v := .ref T.c_Lengths) (by rfl) T.g_Lengths rfl)) pe_int) pa_nil)))))))
       (pss_one (ps_ret (pe_make T.mk_Lengths (ok_Lengths___init__ T) (hr.mono (by decide)) (by rfl) T.g_Lengths (Classical.choose_spec T.bd2_Lengths).2 (Classical.choose_spec T.bd2_Lengths).1 pass0 (pa_cons (pe_cval (pe_glob (v := .ref T.c_Lengths) (by rfl) T.g_Lengths rfl)) (pa_cons (pv 0) pa_nil)))))), ?_⟩
    refine body_of (pure_start ex nt) ?_
    obtain ⟨mu, hmu⟩ := T.cv_Lengths_MOST
    walk_at "wi"
    refine s_forJ (i_tup (w_var rfl ⟨p, _, rfl, hp, ?_⟩))
    refine ⟨_, _, fun j σ' k m => m = 0 ∧ k = kn ∧ ∃ y, σ' = [some (.ref p), y], gives_tup, ⟨rfl, rfl, _, rfl⟩, fun j σ' k m hh => by rw [hh.2.1]; exact hp, ?_, ?_⟩
    · rintro j x σ' k m hj ⟨rfl, rfl, y, rfl⟩
      rw [List.getElem?_map] at hj
      obtain ⟨a, ha, rfl⟩ := Option.map_eq_some_iff.1 hj
      have ha := hx a (List.mem_of_getElem? ha)
      walk_at "wi"
      refine w_call (EA := fun _ _ _ _ => False) mo_arg err_no ?_
      walk_at "w"
      refine ⟨_, _, _, _, rfl, T.cr_Lengths, hmu, ?_⟩
      walk_at "w"
      refine ⟨_, _, _, rfl, by omega, by omega, ?_⟩
      walk_at "wi"
      all_goals first | exact ⟨rfl, rfl, _, rfl⟩ | exact ⟨rfl, _, rfl⟩ | exact ⟨_, rfl⟩ | rfl
    · rintro σ' k m ⟨rfl, rfl, y, rfl⟩
      walk_at "wi"
      refine w_len ?_
      walk_at "w"
      refine ⟨_, _, _, _, rfl, T.cr_Lengths, hmu, ?_⟩
      walk_at "w"
      refine ⟨_, _, 400, 1, xs, [], rfl, ⟨by decide, by decide, by decide, lx, by decide, fun m hm => by have := hx m hm; omega, fun m hm => (by cases hm), ⟨p, rfl, .inr (.inl hp)⟩, ⟨_, rfl, .inr (.inr T.kt_dr_Lengths___init__)⟩⟩, sm, ?_⟩
      exact fun x k e n l => h x k e n l 0
theorem ok_Lengths_since (T : Tx K mg) : FnOk P w K mg base CX0 7 T.f_Lengths_since T.d_Lengths_since ["least"] (liftX (bSince T.c_Lengths)) := by
  refine T.F_Lengths_since.ok sc_Lengths_since (fun vs H Q E h => ?_) (fun cdv A outer s H vs Q E hr h => ?_)
  · obtain ⟨kn, _, _, b, rfl, _⟩ := h
    rfl
  · obtain ⟨kn, ex, nt, b, rfl, hb, h⟩ := h
    refine ⟨_, (pss_cons (ps_expr (pe_call (ok_check_argument T) (hr.mono (by decide)) (by rfl) T.g_check_argument T.F_check_argument.kp T.bd_check_argument .nil pass0 (pa_cons (pv 0) (pa_cons pe_int (pa_cons (pe_op op_sub (pe_cval (pe_glob (v := .ref T.c_Lengths) (by rfl) T.g_Lengths rfl)) pe_int) pa_nil)))))
       (pss_one (ps_ret (pe_make T.mk_Lengths (ok_Lengths___init__ T) (hr.mono (by decide)) (by rfl) T.g_Lengths (Classical.choose_spec T.bd4_Lengths).2 (Classical.choose_spec T.bd4_Lengths).1 pass0 (pa_cons (pv 0) (pa_cons (pe_tup pa_nil) (pa_cons pe_int (pa_cons (pe_tup (pa_cons pe_int pa_nil)) pa_nil)))))))), ?_⟩
    refine body_of (pure_start ex nt) ?_
    obtain ⟨mu, hmu⟩ := T.cv_Lengths_MOST
    walk_at "wi"
    refine w_call mo_arg err_no ?_
    walk_at "w"
    refine ⟨_, _, _, _, rfl, T.cr_Lengths, hmu, ?_⟩
    walk_at "w"
    refine ⟨_, _, _, rfl, (by omega), (by omega), ?_⟩
    walk_at "wi"
    refine w_len ?_
    walk_at "w"
    refine ⟨show 0 ≤ 1000 by decide, fun t1 h1 => ?_⟩
    walk_at "w"
    refine ⟨show 1 ≤ 1000 by decide, fun t2 h2 => ?_⟩
    walk_at "w"
    refine ⟨_, _, b, 1, [], [0], rfl, ⟨by omega, by decide, by decide, by decide, by decide, fun n hn => (by cases hn), fun n hn => (by rw [List.mem_singleton.1 hn]; decide), ⟨t1, rfl, .inr (.inl (know h2 upd_same))⟩, ⟨t2, rfl, .inr (.inl upd_same)⟩⟩, small_of (by omega), fun x k e n l => ?_⟩
    exact h x k (ext_tr (ext_new h1) (ext_tr (ext_new h2) e)) (free_ext (ext_new h1) (free_ext (ext_new h2) n)) l 0
theorem oR_Lengths_since (T : Tx K mg) : FnR P w K mg base CX0 7 T.f_Lengths_since (liftX (bSince T.c_Lengths)) :=
  ((ok_Lengths_since T).raw T.bd_Lengths_since .nil).imp fun vs H Q E h => by rw [List.append_nil]; exact h
end
end L

end NN

namespace NN
open PySem PySem.Spec PyProof.Rows L2 LamX AW ClX
open Tx1 Ln
namespace L
/-! ### joined -/
theorem nf_self {K : PySem.W.Frag} {C : Addr} : PySem.W.notFirst K C (.ref C) = true := by
  unfold PySem.W.notFirst
  simp
theorem inL_args {st p : Nat} {xs ys : List Nat} (h : 1 ≤ p) (n : Nat) : inL (formN st p xs ys) (formT p ys) (n : Int) = if n < st then decide (n ∈ xs) else decide (n % p ∈ ys) := by
  have := inL_form (near := maskOf st xs) (turn := maskOf p ys) (by rw [mask_len]; exact h) n
  rw [mask_len, mask_len] at this
  unfold formN formT
  rw [this]
  by_cases z : n < st
  · rw [if_pos z, if_pos z, ix_mask z]
  · rw [if_neg z, if_neg z, ix_mask (Nat.mod_lt _ h)]
/-- what is told of each number: Lengths of it -/
theorem inL_told {P : Nat → Bool} {st p : Nat} (hp : 1 ≤ p) (hP : ∀ n, st ≤ n → P (n + p) = P n) (n : Nat) : inL (formN st p (lowOf P st) (resOf P st p)) (formT p (resOf P st p)) (n : Int) = P n := by
  rw [inL_args hp]
  split
  · rename_i z
    unfold lowOf
    rw [Bool.eq_iff_iff, decide_eq_true_eq, List.mem_filter, List.mem_range]
    exact ⟨fun q => q.2, fun q => ⟨z, q⟩⟩
  · rename_i z
    rw [Bool.eq_iff_iff, decide_eq_true_eq]
    exact mem_res hp hP (by omega)
abbrev maxN (a b : Nat) : Nat := if b > a then b else a
def bCF (C : Addr) : List V → Hp → AK → AXK → Prop := fun vs kn Q E => ∃ a b nr tn nr' tn', vs = [.ref a, .ref b] ∧ LenAt C kn a nr tn ∧ LenAt C kn b nr' tn' ∧
  maxN nr.length nr'.length + Nat.lcm tn.length tn'.length ≤ 400 ∧ ∀ q k', Ext kn k' → k' q = some (.tup [.int (maxN nr.length nr'.length : Nat), .int (Nat.lcm tn.length tn'.length : Nat)]) → Q (.ref q) k'
theorem mo_cf {C : Addr} : MonoX (bCF C) := by
  rintro vs kn Q R E F h1 h2 ⟨a, b, nr, tn, nr', tn', e, x, y, z, h⟩
  exact ⟨a, b, nr, tn, nr', tn', e, x, y, z, fun q k u1 u2 => h1 _ _ (h q k u1 u2)⟩
def bGath (C : Addr) : List V → Hp → AK → AXK → Prop := fun vs kn Q _ => ∃ (st p : Nat) (P : Nat → Bool) (l : Addr), vs = [.int st, .int p, .ref l] ∧ kn l = some (.lst (natV ((List.range (st + p)).filter P))) ∧ 1 ≤ p ∧ st + p ≤ 400 ∧ (∀ n, st ≤ n → P (n + p) = P n) ∧
  ∀ nr tn, Form nr tn → (∀ n : Nat, inL nr tn (n : Int) = P n) → NewL C kn nr tn Q
theorem mo_gath {C : Addr} : MonoX (bGath C) := by
  rintro vs kn Q R E F h1 h2 ⟨st, p, P, l, a, b, c, d, e, h⟩
  exact ⟨st, p, P, l, a, b, c, d, e, fun nr tn f i x k z1 z2 z3 => h1 _ _ (h nr tn f i x k z1 z2 z3)⟩
def bJoin (f : Bool → Bool → Bool) (C : Addr) : List V → Hp → AK → AXK → Prop := fun vs kn Q E => ∃ a b nr tn nr' tn', vs = [.ref a, .ref b] ∧ LenAt C kn a nr tn ∧ LenAt C kn b nr' tn' ∧
  maxN nr.length nr'.length + Nat.lcm tn.length tn'.length ≤ 400 ∧ ∀ r u, Form r u → (∀ n : Nat, inL r u (n : Int) = f (inL nr tn (n : Int)) (inL nr' tn' (n : Int))) → NewL C kn r u Q
theorem mo_join {f : Bool → Bool → Bool} {C : Addr} : MonoX (bJoin f C) := by
  rintro vs kn Q R E F h1 h2 ⟨a, b, nr, tn, nr', tn', e, x, y, z, h⟩
  exact ⟨a, b, nr, tn, nr', tn', e, x, y, z, fun r u f i s k u1 u2 u3 => h1 _ _ (h r u f i s k u1 u2 u3)⟩
def bInv (C : Addr) : List V → Hp → AK → AXK → Prop := fun vs kn Q E => ∃ a nr tn, vs = [.ref a] ∧ LenAt C kn a nr tn ∧ ∀ r u, Form r u → (∀ n : Nat, inL r u (n : Int) = !inL nr tn (n : Int)) → NewL C kn r u Q
theorem mo_inv {C : Addr} : MonoX (bInv C) := by
  rintro vs kn Q R E F h1 h2 ⟨a, nr, tn, e, x, h⟩
  exact ⟨a, nr, tn, e, x, fun r u f i s k u1 u2 u3 => h1 _ _ (h r u f i s k u1 u2 u3)⟩
abbrev andn (x y : Bool) : Bool := x && !y
theorem join_per {nr tn nr' tn' : List Bool} {f : Bool → Bool → Bool} {n : Nat} (h : maxN nr.length nr'.length ≤ n) : f (inL nr tn ((n + Nat.lcm tn.length tn'.length : Nat) : Int)) (inL nr' tn' ((n + Nat.lcm tn.length tn'.length : Nat) : Int)) = f (inL nr tn (n : Int)) (inL nr' tn' (n : Int)) := by
  have : nr.length ≤ n ∧ nr'.length ≤ n := by unfold maxN at h; split at h <;> omega
  rw [inL_add this.1 (Nat.dvd_lcm_left _ _), inL_add this.2 (Nat.dvd_lcm_right _ _)]
section
variable {c : Cw} {kn : Hp} {n : Nat} {σ : L2.St} {Q : V → Hp → Nat → Prop} {K : PySem.W.Frag} {mg : Str → Option Value}
theorem r_hasL {C a : Addr} {nr tn : List Bool} {i : Int} {neg : Bool} (l : LenAt C kn a nr tn) (q : Q (.bl (if neg then !inL nr tn i else inL nr tn i)) kn n) : W c (rInO C (liftX (bHas K C)) neg (.int i) (.ref a)) kn n Q := by
  obtain ⟨dx, q1, q2, q3, a1, _⟩ := l.at_
  exact r_inO mo_has a1 ⟨_, _, _, _, rfl, l, .inl ⟨i, rfl, _, rfl, q⟩⟩
theorem r_eqLL (T : Tx K mg) {s s' : Addr} {nr tn nr' tn' : List Bool} {neg : Bool} (l : LenAt T.c_Lengths kn s nr tn) (l' : LenAt T.c_Lengths kn s' nr' tn') (q : Q (.bl (if neg then !decide (nr = nr' ∧ tn = tn') else decide (nr = nr' ∧ tn = tn'))) kn n) : W c (rEqO K T.c_Lengths (liftX (bEq T.c_Lengths)) neg (.ref s) (.ref s')) kn n Q := by
  obtain ⟨dx, q1, q2, q3, a1, _⟩ := l.at_
  obtain ⟨dx', q1', q2', q3', b1, _⟩ := l'.at_
  exact r_eqO mo_eq a1 (T.own_Lengths.ty b1) nf_self ⟨_, _, _, _, _, _, rfl, l, l', _, rfl, q⟩
theorem w_pr {C : Addr} {f : Nat → Nat → Addr → Addr → V} {E : XK} {i : Nat} {a : Addr} {nr tn : List Bool} (hv : σ[i]? = some (some (.ref a))) (l : LenAt C kn a nr tn) (q : ∀ q1 q2, kn q1 = some (.tup (natV (idx nr))) → kn q2 = some (.tup (natV (idx tn))) → Q (f nr.length tn.length q1 q2) kn n) : W c (tProp C (liftX (bField C f)) [] E (tVar i) σ) kn n Q := by
  obtain ⟨dx, q1, q2, q3, a1, a2, a3, a4⟩ := l.at_
  exact w_prop mo_field (w_var hv ⟨a, dx, _, rfl, a1, _, nr.length, tn.length, _, q1, q2, q3, rfl, a1, q q1 q2 a2 a3⟩)
def pNat (pr : Nat → Bool) : V → Bool
  | .int i => pr i.toNat
  | _ => false
def fNat (fn : Nat → Nat) : V → V
  | .int i => .int (fn i.toNat : Nat)
  | v => v
theorem nat_map {pr : Nat → Bool} {fn : Nat → Nat} (xs : List Nat) : ((natV xs).filter (pNat pr)).map (fNat fn) = natV ((xs.filter pr).map fn) := by
  unfold natV
  rw [List.filter_map, List.map_map, List.map_map]
  rfl
/-- [f(n) for n in some if ..] of what is asked of each number of a list -/
theorem w_lcNat {te : TE} {tt : TT} {tv : TE} {m : Nat} {xs : List Nat} {pr : Nat → Bool} {fn : Nat → Nat} (hte : ∀ R : V → Hp → Nat → Prop, (∀ l, kn l = some (.lst (natV xs)) → R (.ref l) kn n) → W c (te σ) kn n R) (hL : xs.length ≤ 1000)
    (hw : ∀ v : V, wipe ((wipe σ [m]).set m (some v)) [m] = wipe σ [m])
    (ht : ∀ (i : Nat) (k : Hp) (R : Bool → Hp → Nat → Prop), i ∈ xs → Ext kn k → R (pr i) k n → W c (tt ((wipe σ [m]).set m (some (.int (i : Int))))) k n R)
    (hv : ∀ (i : Nat) (k : Hp) (R : V → Hp → Nat → Prop), i ∈ xs → Ext kn k → R (.int (fn i : Nat)) k n → W c (tv ((wipe σ [m]).set m (some (.int (i : Int))))) k n R)
    (hq : ∀ D, kn D = none → Q (.ref D) (upd kn D (.lst (natV ((xs.filter pr).map fn)))) n) :
    W c (tLc (iList K te) (gName m) tt tv [m] σ) kn n Q := by
  refine w_lcP (i_list (hte _ fun l hl => ⟨l, _, rfl, hl, ?_⟩))
  refine ⟨_, _, fNat fn, pNat pr, gives_lst, by rw [List.length_map]; omega, fun k e => e _ _ hl, fun x hx k ek => ?_, fun D hD => ?_⟩
  · obtain ⟨i, hm, rfl⟩ := List.mem_map.1 hx
    refine g_name ⟨rfl, rfl, hw _, ?_⟩
    exact ht i k _ hm ek ⟨rfl, rfl, rfl, fun _ => hv i k _ hm ek ⟨rfl, rfl, rfl⟩⟩
  · rw [nat_map]
    exact hq D hD
/-- [n for n in range(a + b) if ..] of what is asked of each number -/
theorem w_lcNums {te : TE} {tt : TT} {m L : Nat} {pr : Nat → Bool} (hte : ∀ R : V → Hp → Nat → Prop, R (.int L) kn n → W c (te σ) kn n R) (hL : L ≤ 1000)
    (h9 : ∀ v : V, ((wipe σ [m]).set m (some v))[m]? = some (some v)) (hw : ∀ v : V, wipe ((wipe σ [m]).set m (some v)) [m] = wipe σ [m])
    (ht : ∀ (i : Nat) (k : Hp) (R : Bool → Hp → Nat → Prop), Ext kn k → R (pr i) k n → W c (tt ((wipe σ [m]).set m (some (.int (i : Int))))) k n R)
    (hq : ∀ D, kn D = none → Q (.ref D) (upd kn D (.lst (natV ((List.range L).filter pr)))) n) :
    W c (tLc (iRng1 (tCons te tNil)) (gName m) tt (tVar m) [m] σ) kn n Q := by
  refine w_lcP (i_rng1 (w_cons (hte _ (w_nil ⟨L, rfl, by omega, by omega, ?_⟩))))
  rw [Int.toNat_natCast]
  refine ⟨_, (fun _ => True), (fun v => v), (fun v => match v with | .int i => pr i.toNat | _ => false), gives_rng, by rw [List.length_map, List.length_range]; omega, fun _ _ => trivial, fun x hx k ek => ?_, fun D hD => ?_⟩
  · obtain ⟨i, hm, rfl⟩ := List.mem_map.1 hx
    rw [Int.zero_add]
    refine g_name ⟨rfl, rfl, hw _, ?_⟩
    exact ht i k _ ek ⟨rfl, rfl, rfl, fun _ => w_var (h9 _) ⟨rfl, rfl, rfl⟩⟩
  · rw [List.map_id', rng_filter (P := pr) (fun i hi => by rw [Int.zero_add]; rfl)]
    exact hq D hD
end
section
variable {P : Program} {w : World} {K : PySem.W.Frag} {mg : Str → Option Value} {base : Heap}
theorem ok_common_form (T : Tx K mg) : FnOk P w K mg base CX0 4 T.f_common_form T.d_common_form ["one", "other"] (liftX (bCF T.c_Lengths)) := by
  refine T.F_common_form.ok sc_common_form (fun vs H Q E h => ?_) (fun cdv A outer s H vs Q E hr h => ?_)
  · obtain ⟨kn, _, _, a, b, nr, tn, nr', tn', rfl, _⟩ := h
    rfl
  · obtain ⟨kn, ex, nt, a, b, nr, tn, nr', tn', rfl, da, db, h4, h⟩ := h
    refine ⟨_, (pss_cons (ps_set (i := 2) sc_common_form.nd rfl (by first | exact Or.inl rfl | exact Or.inr rfl) (pe_callB (c_max2 rfl) (by rfl) T.b_max (by decide +kernel) (pa_cons (pe_callTy c_int (by rfl) T.b_int boot_int (pa_cons (pe_prop (pv 0) T.cl_Lengths T.pp_Lengths_start (ok_Lengths_start T) (hr.mono (by decide)) T.bd_Lengths_start .nil pass0 (by rfl)) pa_nil)) (pa_cons (pe_prop (pv 1) T.cl_Lengths T.pp_Lengths_start (ok_Lengths_start T) (hr.mono (by decide)) T.bd_Lengths_start .nil pass0 (by rfl)) pa_nil))))
       (pss_cons (ps_set (i := 3) sc_common_form.nd rfl (by first | exact Or.inl rfl | exact Or.inr rfl) (pe_callMB cr_lcm (by rfl) T.g_lcm (pa_cons (pe_prop (pv 0) T.cl_Lengths T.pp_Lengths_period (ok_Lengths_period T) (hr.mono (by decide)) T.bd_Lengths_period .nil pass0 (by rfl)) (pa_cons (pe_prop (pv 1) T.cl_Lengths T.pp_Lengths_period (ok_Lengths_period T) (hr.mono (by decide)) T.bd_Lengths_period .nil pass0 (by rfl)) pa_nil))))
       (pss_cons (ps_expr (pe_call (ok_check_size T) (hr.mono (by decide)) (by rfl) T.g_check_size T.F_check_size.kp T.bd_check_size .nil pass0 (pa_cons (pv 2) (pa_cons (pv 3) pa_nil))))
       (pss_one (ps_ret (pe_tup (pa_cons (pv 2) (pa_cons (pv 3) pa_nil)))))))), ?_⟩
    refine body_of (pure_start ex nt) ?_
    have f2 := da.form.le
    have g2 := db.form.le
    walk_at "wi"
    refine w_pr rfl da fun _ _ _ _ => ?_
    walk_at "wi"
    refine w_pr rfl db fun _ _ _ _ => ?_
    walk_at "wi"
    refine r_max2 ?_
    have em : (if (nr'.length : Int) > (nr.length : Int) then (nr'.length : Int) else (nr.length : Int)) = ((maxN nr.length nr'.length : Nat) : Int) := by
      unfold maxN
      by_cases z : nr'.length > nr.length
      · rw [if_pos z, if_pos (by omega)]
      · rw [if_neg z, if_neg (by omega)]
    rw [em]
    walk_at "wi"
    refine w_pr rfl da fun _ _ _ _ => ?_
    walk_at "wi"
    refine w_pr rfl db fun _ _ _ _ => ?_
    walk_at "wi"
    refine r_lcm (by omega) (by omega) ?_
    walk_at "wi"
    refine w_call mo_size err_no ?_
    walk_at "wi"
    refine ⟨_, _, rfl, by omega, ?_⟩
    walk_at "wi"
    refine ⟨show 2 ≤ 1000 by decide, fun q hq => ?_⟩
    exact h q _ (ext_new hq) upd_same 0
theorem ok_gathered (T : Tx K mg) : FnOk P w K mg base CX0 7 T.f_gathered T.d_gathered ["start", "period", "numbers"] (liftX (bGath T.c_Lengths)) := by
  refine T.F_gathered.ok sc_gathered (fun vs H Q E h => ?_) (fun cdv A outer s H vs Q E hr h => ?_)
  · obtain ⟨kn, _, _, st, p, PP, l, rfl, _⟩ := h
    rfl
  · obtain ⟨kn, ex, nt, st, p, PP, l, rfl, hl, p1, sp, hP, h⟩ := h
    refine ⟨_, (pss_cons (ps_setLc (i := 3) (own := [("n", 4)]) (g := gName 4) (by rfl) sc_gathered.nd rfl rfl (sw_true rfl rfl rfl (by decide +kernel)) (pi_list (pv 2)) (blkOk_by (own := [("n", 4)]) (N := ["start", "period", "numbers", "low", "n"]) (sc := defScope s_gathered) (by decide +kernel)) (fun _ _ _ _ _ => pg_name (i := 4) sc_gathered.nd rfl (Or.inl rfl)) (fun _ _ _ _ _ => (pts_one (pt_cmpR op_lt (pv 4) (pv 0) (nomark _)))) (fun _ _ _ _ _ => (pv 4)))
       (pss_one (ps_ret (pe_make T.mk_Lengths (ok_Lengths___init__ T) (hr.mono (by decide)) (by rfl) T.g_Lengths (Classical.choose_spec T.bd4_Lengths).2 (Classical.choose_spec T.bd4_Lengths).1 pass0 (pa_cons (pv 0) (pa_cons (pv 3) (pa_cons (pv 1) (pa_cons (pe_lc (own := [("n", 4)]) (g := gName 4) (by rfl) sc_gathered.nd (pi_list (pv 2)) (blkOk_by (own := [("n", 4)]) (N := ["start", "period", "numbers", "low", "n"]) (sc := defScope s_gathered) (by decide +kernel)) (fun _ _ _ _ _ => pg_name (i := 4) sc_gathered.nd rfl (Or.inl rfl)) (fun _ _ _ _ _ => (pts_one (pt_cmpR op_ge (pv 4) (pv 0) (nomark _)))) (fun _ _ _ _ _ => (pe_op op_mod (pv 4) (pv 1)))) pa_nil)))))))), ?_⟩
    refine body_of (pure_start ex nt) ?_
    have len : ((List.range (st + p)).filter PP).length ≤ st + p := Nat.le_trans (List.length_filter_le _ _) (by rw [List.length_range]; exact Nat.le_refl _)
    refine s_seq (s_set ?_)
    refine w_lcNat (xs := (List.range (st + p)).filter PP) (pr := fun n => decide (n < st)) (fn := fun n => n) (fun R hR => w_var rfl (hR l hl)) (by omega) (fun _ => rfl) (fun i k R _ ek hR => ?_) (fun i k R _ ek hR => w_var rfl hR) fun D hD => ?_
    · walk_at "w"
      rw [decide_eq_decide.2 (show ((i : Int) < (st : Int)) ↔ i < st by omega)]
      exact hR
    rw [List.map_id', low_of]
    have e1 : Ext kn (upd kn D (.lst (natV (lowOf PP st)))) := ext_new hD
    have D1 : (upd kn D (.lst (natV (lowOf PP st)))) D = some (.lst (natV (lowOf PP st))) := upd_same
    generalize upd kn D (.lst (natV (lowOf PP st))) = k1 at e1 D1 ⊢
    walk_at "wi"
    refine w_len ?_
    walk_at "w"
    refine w_lcNat (xs := (List.range (st + p)).filter PP) (pr := fun n => decide (st ≤ n)) (fn := fun n => n % p) (fun R hR => w_var rfl (hR l (e1 _ _ hl))) (by omega) (fun _ => rfl) (fun i k R _ ek hR => ?_) (fun i k R _ ek hR => ?_) fun D2 hD2 => ?_
    · walk_at "w"
      rw [decide_eq_decide.2 (show ((st : Int) ≤ (i : Int)) ↔ st ≤ i by omega)]
      exact hR
    · walk_at "w"
      refine r_I (by omega) ?_
      rw [← Int.natCast_emod]
      exact hR
    walk_at "w"
    have l1 : (lowOf PP st).length ≤ st := Nat.le_trans (List.length_filter_le _ _) (by rw [List.length_range]; exact Nat.le_refl _)
    have l2 : (resOf PP st p).length ≤ st + p := by
      unfold resOf
      rw [List.length_map]
      exact Nat.le_trans (List.length_filter_le _ _) len
    refine ⟨_, _, st, p, lowOf PP st, resOf PP st p, rfl, ⟨by omega, p1, by omega, by omega, by omega, fun n hn => List.mem_range.1 (List.mem_filter.1 hn).1, fun n hn => ?_, ⟨D, rfl, .inl (know hD2 D1)⟩, ⟨D2, rfl, .inl upd_same⟩⟩, small_of sp, fun x k e n l => ?_⟩
    · obtain ⟨m, _, rfl⟩ := List.mem_map.1 hn
      exact Nat.mod_lt _ p1
    · exact h _ _ l.form (fun n => inL_told p1 hP n) x k (ext_tr e1 (ext_tr (ext_new hD2) e)) (free_ext e1 (free_ext (ext_new hD2) n)) l 0
theorem ok_Lengths___or__ (T : Tx K mg) : FnOk P w K mg base CX0 8 T.f_Lengths___or__ T.d_Lengths___or__ ["self", "other"] (liftX (bJoin or T.c_Lengths)) := by
  refine T.F_Lengths___or__.ok sc_Lengths___or__ (fun vs H Q E h => ?_) (fun cdv A outer s H vs Q E hr h => ?_)
  · obtain ⟨kn, _, _, a, b, nr, tn, nr', tn', rfl, _⟩ := h
    rfl
  · obtain ⟨kn, ex, nt, a, b, nr, tn, nr', tn', rfl, da, db, h4, h⟩ := h
    refine ⟨_, (pss_cons (ps_asg (pe_call (ok_common_form T) (hr.mono (by decide)) (by rfl) T.g_common_form T.F_common_form.kp T.bd_common_form .nil pass0 (pa_cons (pv 0) (pa_cons (pv 1) pa_nil))) (pg_tup (by rfl) (pgs_cons (pg_name (i := 2) sc_Lengths___or__.nd rfl (by first | exact Or.inl rfl | exact Or.inr rfl)) (pgs_cons (pg_name (i := 3) sc_Lengths___or__.nd rfl (by first | exact Or.inl rfl | exact Or.inr rfl)) pgs_nil))))
       (pss_one (ps_ret (pe_call (ok_gathered T) (hr.mono (by decide)) (by rfl) T.g_gathered T.F_gathered.kp T.bd_gathered .nil pass0 (pa_cons (pv 2) (pa_cons (pv 3) (pa_cons (pe_lc (own := [("n", 4)]) (g := gName 4) (by rfl) sc_Lengths___or__.nd (pi_range1 (by rfl) T.b_range (pa_cons (pe_op op_add (pv 2) (pv 3)) pa_nil)) (blkOk_by (own := [("n", 4)]) (N := ["self", "other", "start", "period", "n"]) (sc := defScope s_Lengths___or__) (by decide +kernel)) (fun _ _ _ _ _ => pg_name (i := 4) sc_Lengths___or__.nd rfl (Or.inl rfl)) (fun _ _ _ _ _ => (pts_one (PW.pt (pw_or (pt_cmpR (op_inO T.sm_Lengths___contains__ (ok_Lengths___contains__ T) (hr.mono (by decide)) T.bd_Lengths___contains__ pass0) (pv 4) (pv 0) (by rfl)) (pw_or1 (pt_cmpR (op_inO T.sm_Lengths___contains__ (ok_Lengths___contains__ T) (hr.mono (by decide)) T.bd_Lengths___contains__ pass0) (pv 4) (pv 1) (by rfl))))))) (fun _ _ _ _ _ => (pv 4))) pa_nil))))))), ?_⟩
    refine body_of (pure_start ex nt) ?_
    have fp := da.form.pos
    have gp := db.form.pos
    have lp : 0 < Nat.lcm tn.length tn'.length := Nat.lcm_pos fp gp
    walk_at "wi"
    refine w_call mo_cf err_no ?_
    walk_at "wi"
    refine ⟨a, b, nr, tn, nr', tn', rfl, da, db, h4, fun q k1 e1 hq => ?_⟩
    have hP : ∀ n, maxN nr.length nr'.length ≤ n → or (inL nr tn ((n + Nat.lcm tn.length tn'.length : Nat) : Int)) (inL nr' tn' ((n + Nat.lcm tn.length tn'.length : Nat) : Int)) = or (inL nr tn (n : Int)) (inL nr' tn' (n : Int)) := fun n hn => join_per hn
    generalize Nat.lcm tn.length tn'.length = L at h h4 lp hq hP ⊢
    generalize maxN nr.length nr'.length = M at h h4 hq hP ⊢
    have da := LenAt.ext e1 da
    have db := LenAt.ext e1 db
    refine g_tup hq rfl ?_
    walk_at "wi"
    refine w_call mo_gath err_no ?_
    walk_at "w"
    refine w_lcNums (L := M + L) (pr := fun n => or (inL nr tn (n : Int)) (inL nr' tn' (n : Int))) (fun R hR => ?_) (by omega) (fun _ => rfl) (fun _ => rfl) (fun i k R ek hR => ?_) fun D hD => ?_
    · walk_at "w"
      exact hR
    · walk_at "w"
      refine r_hasL (LenAt.ext ek da) ?_
      rw [if_neg Bool.false_ne_true]
      walk_at "w"
      refine ⟨fun h1 => ?_, fun h1 => ?_⟩
      · walk_at "w"
        first
          | (refine r_hasL (LenAt.ext ek db) ?_
             walk_at "w"
             rw [h1] at hR
             exact hR)
          | (rw [h1] at hR
             exact hR)
      · first
          | (rw [h1] at hR
             exact hR)
          | (walk_at "w"
             refine r_hasL (LenAt.ext ek db) ?_
             walk_at "w"
             rw [h1] at hR
             exact hR)
    walk_at "w"
    refine ⟨M, L, fun n => or (inL nr tn (n : Int)) (inL nr' tn' (n : Int)), D, rfl, upd_same, lp, h4, hP, fun r u f i x k e n l => h r u f i x k (ext_tr e1 (ext_tr (ext_new hD) e)) (free_ext e1 (free_ext (ext_new hD) n)) l 0⟩
theorem ok_Lengths___sub__ (T : Tx K mg) : FnOk P w K mg base CX0 8 T.f_Lengths___sub__ T.d_Lengths___sub__ ["self", "other"] (liftX (bJoin andn T.c_Lengths)) := by
  refine T.F_Lengths___sub__.ok sc_Lengths___sub__ (fun vs H Q E h => ?_) (fun cdv A outer s H vs Q E hr h => ?_)
  · obtain ⟨kn, _, _, a, b, nr, tn, nr', tn', rfl, _⟩ := h
    rfl
  · obtain ⟨kn, ex, nt, a, b, nr, tn, nr', tn', rfl, da, db, h4, h⟩ := h
    refine ⟨_, (pss_cons (ps_asg (pe_call (ok_common_form T) (hr.mono (by decide)) (by rfl) T.g_common_form T.F_common_form.kp T.bd_common_form .nil pass0 (pa_cons (pv 0) (pa_cons (pv 1) pa_nil))) (pg_tup (by rfl) (pgs_cons (pg_name (i := 2) sc_Lengths___sub__.nd rfl (by first | exact Or.inl rfl | exact Or.inr rfl)) (pgs_cons (pg_name (i := 3) sc_Lengths___sub__.nd rfl (by first | exact Or.inl rfl | exact Or.inr rfl)) pgs_nil))))
       (pss_one (ps_ret (pe_call (ok_gathered T) (hr.mono (by decide)) (by rfl) T.g_gathered T.F_gathered.kp T.bd_gathered .nil pass0 (pa_cons (pv 2) (pa_cons (pv 3) (pa_cons (pe_lc (own := [("n", 4)]) (g := gName 4) (by rfl) sc_Lengths___sub__.nd (pi_range1 (by rfl) T.b_range (pa_cons (pe_op op_add (pv 2) (pv 3)) pa_nil)) (blkOk_by (own := [("n", 4)]) (N := ["self", "other", "start", "period", "n"]) (sc := defScope s_Lengths___sub__) (by decide +kernel)) (fun _ _ _ _ _ => pg_name (i := 4) sc_Lengths___sub__.nd rfl (Or.inl rfl)) (fun _ _ _ _ _ => (pts_one (PW.pt (pw_and (pt_cmpR (op_inO T.sm_Lengths___contains__ (ok_Lengths___contains__ T) (hr.mono (by decide)) T.bd_Lengths___contains__ pass0) (pv 4) (pv 0) (by rfl)) (pw_and1 (pt_cmpR (op_notInO T.sm_Lengths___contains__ (ok_Lengths___contains__ T) (hr.mono (by decide)) T.bd_Lengths___contains__ pass0) (pv 4) (pv 1) (by rfl))))))) (fun _ _ _ _ _ => (pv 4))) pa_nil))))))), ?_⟩
    refine body_of (pure_start ex nt) ?_
    have fp := da.form.pos
    have gp := db.form.pos
    have lp : 0 < Nat.lcm tn.length tn'.length := Nat.lcm_pos fp gp
    walk_at "wi"
    refine w_call mo_cf err_no ?_
    walk_at "wi"
    refine ⟨a, b, nr, tn, nr', tn', rfl, da, db, h4, fun q k1 e1 hq => ?_⟩
    have hP : ∀ n, maxN nr.length nr'.length ≤ n → andn (inL nr tn ((n + Nat.lcm tn.length tn'.length : Nat) : Int)) (inL nr' tn' ((n + Nat.lcm tn.length tn'.length : Nat) : Int)) = andn (inL nr tn (n : Int)) (inL nr' tn' (n : Int)) := fun n hn => join_per hn
    generalize Nat.lcm tn.length tn'.length = L at h h4 lp hq hP ⊢
    generalize maxN nr.length nr'.length = M at h h4 hq hP ⊢
    have da := LenAt.ext e1 da
    have db := LenAt.ext e1 db
    refine g_tup hq rfl ?_
    walk_at "wi"
    refine w_call mo_gath err_no ?_
    walk_at "w"
    refine w_lcNums (L := M + L) (pr := fun n => andn (inL nr tn (n : Int)) (inL nr' tn' (n : Int))) (fun R hR => ?_) (by omega) (fun _ => rfl) (fun _ => rfl) (fun i k R ek hR => ?_) fun D hD => ?_
    · walk_at "w"
      exact hR
    · walk_at "w"
      refine r_hasL (LenAt.ext ek da) ?_
      rw [if_neg Bool.false_ne_true]
      walk_at "w"
      refine ⟨fun h1 => ?_, fun h1 => ?_⟩
      · walk_at "w"
        first
          | (refine r_hasL (LenAt.ext ek db) ?_
             walk_at "w"
             rw [h1] at hR
             exact hR)
          | (rw [h1] at hR
             exact hR)
      · first
          | (rw [h1] at hR
             exact hR)
          | (walk_at "w"
             refine r_hasL (LenAt.ext ek db) ?_
             walk_at "w"
             rw [h1] at hR
             exact hR)
    walk_at "w"
    refine ⟨M, L, fun n => andn (inL nr tn (n : Int)) (inL nr' tn' (n : Int)), D, rfl, upd_same, lp, h4, hP, fun r u f i x k e n l => h r u f i x k (ext_tr e1 (ext_tr (ext_new hD) e)) (free_ext e1 (free_ext (ext_new hD) n)) l 0⟩
end
end L

end NN

namespace NN
open PySem PySem.Spec PyProof.Rows L2 LamX AW ClX
open Tx1 Ln
namespace L
/-! ### how many below a number -/
def cnt (f : Nat → Bool) : Nat → Nat
  | 0 => 0
  | n + 1 => cnt f n + (f n).toNat
theorem cnt_add (f : Nat → Bool) (a : Nat) : ∀ n, cnt f (a + n) = cnt f a + cnt (fun i => f (a + i)) n
  | 0 => rfl
  | n + 1 => by
    show cnt f (a + n) + (f (a + n)).toNat = cnt f a + (cnt (fun i => f (a + i)) n + (f (a + n)).toNat)
    rw [cnt_add f a n, Nat.add_assoc]
theorem cnt_congr {f g : Nat → Bool} : ∀ {n : Nat}, (∀ i, i < n → f i = g i) → cnt f n = cnt g n
  | 0, _ => rfl
  | n + 1, h => by
    show cnt f n + (f n).toNat = cnt g n + (g n).toNat
    rw [cnt_congr fun i hi => h i (by omega), h n (by omega)]
theorem cnt_per {f : Nat → Bool} {b s : Nat} (h : ∀ m, b ≤ m → f (m + s) = f m) : ∀ d, cnt f (b + d + s) + cnt f b = cnt f (b + d) + cnt f (b + s)
  | 0 => by rw [Nat.add_zero, Nat.add_comm]
  | d + 1 => by
    have ih := cnt_per h d
    have e1 : cnt f (b + (d + 1) + s) = cnt f (b + d + s) + (f (b + d + s)).toNat := by rw [show b + (d + 1) + s = b + d + s + 1 by omega]; rfl
    have e2 : cnt f (b + (d + 1)) = cnt f (b + d) + (f (b + d)).toNat := rfl
    rw [e1, e2, h (b + d) (by omega)]
    omega
theorem cnt_rep {f : Nat → Bool} {b s p : Nat} (h : ∀ m, b ≤ m → f (m + s) = f m) (hp : cnt f (b + s) = cnt f b + p) (d : Nat) : ∀ t, cnt f (b + d + t * s) = cnt f (b + d) + t * p
  | 0 => by rw [Nat.zero_mul, Nat.zero_mul, Nat.add_zero]; rfl
  | t + 1 => by
    have ih := cnt_rep h hp d t
    have e := cnt_per h (d + t * s)
    rw [← Nat.add_assoc] at e
    rw [Nat.succ_mul, Nat.succ_mul, ← Nat.add_assoc]
    omega
theorem cnt_len (f : Nat → Bool) : ∀ n, ((List.range n).filter f).length = cnt f n
  | 0 => rfl
  | n + 1 => by
    rw [List.range_succ, List.filter_append, List.length_append, cnt_len f n]
    show _ = cnt f n + (f n).toNat
    cases h : f n <;> simp [h]
theorem count_take {t : List Bool} : ∀ {n : Nat}, n ≤ t.length → (t.take n).count true = cnt (ix t) n
  | 0, _ => by simp [cnt]
  | n + 1, h => by
    have hn : n < t.length := by omega
    rw [List.take_succ, List.count_append, count_take (by omega), List.getElem?_eq_getElem hn]
    show _ = cnt (ix t) n + (ix t n).toNat
    have : ix t n = t[n] := by unfold ix; rw [List.getD_eq_getElem?_getD, List.getElem?_eq_getElem hn]; rfl
    rw [this]
    cases t[n] <;> rfl
theorem idx_cnt (t : List Bool) : (idx t).length = cnt (ix t) t.length := cnt_len _ _
/-- the members below n -/
def cntL (nr tn : List Bool) (n : Nat) : Nat := cnt (fun k => inL nr tn (k : Int)) n
theorem ix_all {nr tn : List Bool} {i : Nat} (h : i < nr.length + tn.length) : ix (marks nr tn) i = inL nr tn (i : Int) := by
  rw [inL_nat]
  by_cases z : i < nr.length
  · rw [if_pos z, ix_marks_lo z]
  · rw [if_neg z]
    obtain ⟨m, rfl⟩ : ∃ m, i = nr.length + m := ⟨i - nr.length, by omega⟩
    exact ix_marks_hi (by omega)
theorem cnt_lo {nr tn : List Bool} {n : Nat} (h : n ≤ nr.length + tn.length) : ((marks nr tn).take n).count true = cntL nr tn n := by
  rw [count_take (by rw [marks_len]; exact h)]
  exact cnt_congr fun i hi => ix_all (by omega)
theorem cnt_low (nr tn : List Bool) : (idx nr).length = cntL nr tn nr.length := by
  rw [idx_cnt]
  refine cnt_congr fun i hi => ?_
  rw [inL_nat, if_pos hi]
theorem cnt_turn {nr tn : List Bool} (hp : 0 < tn.length) : cntL nr tn (nr.length + tn.length) = cntL nr tn nr.length + (idx tn).length := by
  unfold cntL
  rw [cnt_add]
  congr 1
  have e1 : cnt (fun i => inL nr tn ((nr.length + i : Nat) : Int)) tn.length = cnt (fun i => ix tn ((nr.length + i) % tn.length)) tn.length := cnt_congr fun i hi => by rw [inL_nat, if_neg (by omega)]
  rw [e1]
  have g := cnt_per (f := fun k => ix tn (k % tn.length)) (b := 0) (s := tn.length) (fun m _ => by rw [Nat.add_mod_right]) nr.length
  rw [Nat.zero_add, Nat.zero_add] at g
  have a := cnt_add (fun k => ix tn (k % tn.length)) nr.length tn.length
  have z : cnt (fun k => ix tn (k % tn.length)) 0 = 0 := rfl
  have e2 : cnt (fun k => ix tn (k % tn.length)) tn.length = (idx tn).length := by
    rw [idx_cnt]
    exact cnt_congr fun i hi => by rw [Nat.mod_eq_of_lt hi]
  rw [← e2]
  omega
theorem inL_step {nr tn : List Bool} (m : Nat) (h : nr.length ≤ m) : inL nr tn ((m + tn.length : Nat) : Int) = inL nr tn (m : Int) := inL_add h (Nat.dvd_refl _)
theorem cnt_hi {nr tn : List Bool} (hp : 0 < tn.length) (d : Nat) : (idx nr).length + d / tn.length * (idx tn).length + (((marks nr tn).drop nr.length).take (d % tn.length)).count true = cntL nr tn (nr.length + d) := by
  have hm := Nat.mod_lt d hp
  have e := cnt_rep (f := fun k => inL nr tn (k : Int)) (b := nr.length) (s := tn.length) (p := (idx tn).length) (fun m hm => inL_step m hm) (cnt_turn hp) (d % tn.length) (d / tn.length)
  have dd : nr.length + d % tn.length + d / tn.length * tn.length = nr.length + d := by
    have := Nat.mod_add_div d tn.length
    rw [Nat.mul_comm] at this
    omega
  rw [dd] at e
  have t1 := cnt_lo (nr := nr) (tn := tn) (n := nr.length + d % tn.length) (by omega)
  rw [List.take_add, List.count_append, cnt_lo (by omega)] at t1
  have l := cnt_low nr tn
  unfold cntL at t1 l ⊢
  omega
theorem cut_mid {xs : List V} {b r : Nat} (h : b + r ≤ xs.length) : cutV xs (some (b : Int)) (some ((b + r : Nat) : Int)) = (xs.drop b).take r := by
  unfold cutV
  rw [HT.sIx_nat, HT.sIx_nat, Nat.min_eq_left h, Nat.min_eq_left (show b ≤ xs.length by omega), Nat.add_sub_cancel_left]
def bBel (C : Addr) : List V → Hp → AK → AXK → Prop := fun vs kn Q _ => ∃ a nr tn, ∃ n : Nat, vs = [.ref a, .int n] ∧ LenAt C kn a nr tn ∧ ∀ k', Ext kn k' → Q (.int (cntL nr tn n : Nat)) k'
theorem mo_bel {C : Addr} : MonoX (bBel C) := by
  rintro vs kn Q R E F h1 h2 ⟨a, nr, tn, n, b, c, h⟩
  exact ⟨a, nr, tn, n, b, c, fun k e => h1 _ _ (h k e)⟩
section
variable {P : Program} {w : World} {K : PySem.W.Frag} {mg : Str → Option Value} {base : Heap}
theorem ok_Lengths_below (T : Tx K mg) : FnOk P w K mg base CX0 4 T.f_Lengths_below T.d_Lengths_below ["self", "n"] (liftX (bBel T.c_Lengths)) := by
  refine T.F_Lengths_below.ok sc_Lengths_below (fun vs H Q E h => ?_) (fun cdv A outer s H vs Q E hr h => ?_)
  · obtain ⟨kn, _, _, a, nr, tn, n, rfl, _⟩ := h
    rfl
  · obtain ⟨kn, ex, nt, a, nr, tn, n, rfl, DA, h⟩ := h
    refine ⟨_, (pss_cons (ps_expr (pe_call (ok_check_number T) (hr.mono (by decide)) (by rfl) T.g_check_number T.F_check_number.kp T.bd_check_number .nil pass0 (pa_cons (pv 1) pa_nil)))
       (pss_cons (ps_if (pt_cmpR op_le (pv 1) (pe_fld (pv 0) rfl) (nomark _))
       (pss_one (ps_ret (pe_bmF PySem.F.plainAttrs_tuple PySem.F.slot_tuple_count PySem.F.type_tuple_count mt_tcnt (pe_slice (show SlR _ (rSlF K) from sl_tupF) (pe_fld (pv 0) rfl) po_none (po_some (pv 1))) (pa_cons pe_bl pa_nil))))
       pss_nil)
       (pss_cons (ps_asg (pe_callB L2.call_divmod (by rfl) T.b_divmod (by decide +kernel) (pa_cons (pe_op op_sub (pv 1) (pe_fld (pv 0) rfl)) (pa_cons (pe_fld (pv 0) rfl) pa_nil))) (pg_tup (by rfl) (pgs_cons (pg_name (i := 2) sc_Lengths_below.nd rfl (by first | exact Or.inl rfl | exact Or.inr rfl)) (pgs_cons (pg_name (i := 3) sc_Lengths_below.nd rfl (by first | exact Or.inl rfl | exact Or.inr rfl)) pgs_nil))))
       (pss_cons (ps_set (i := 4) sc_Lengths_below.nd rfl (by first | exact Or.inl rfl | exact Or.inr rfl) (pe_slice (show SlR _ (rSlF K) from sl_tupF) (pe_fld (pv 0) rfl) (po_some (pe_fld (pv 0) rfl)) (po_some (pe_op op_add (pe_fld (pv 0) rfl) (pv 3)))))
       (pss_one (ps_ret (pe_op op_add (pe_op op_add (pe_callB c_len (by rfl) T.b_len PySem.boot_len (pa_cons (pe_fld (pv 0) rfl) pa_nil)) (pe_op op_mul (pv 2) (pe_callB c_len (by rfl) T.b_len PySem.boot_len (pa_cons (pe_fld (pv 0) rfl) pa_nil)))) (pe_bmF PySem.F.plainAttrs_tuple PySem.F.slot_tuple_count PySem.F.type_tuple_count mt_tcnt (pv 4) (pa_cons pe_bl pa_nil))))))))), ?_⟩
    refine body_of (pure_start ex nt) ?_
    obtain ⟨dx, q1, q2, q3, z1, z2, z3, z4⟩ := DA.at_
    have F := DA.form
    have cL := T.cl_Lengths
    have tp := F.pos
    have fl := F.le
    have ml := marks_len nr tn
    walk_at "wi"
    refine w_call mo_num err_no ?_
    walk_at "w"
    refine ⟨n, rfl, ?_⟩
    walk_at "wi"
    refine w_fld (w_var rfl ⟨_, _, _, _, _, rfl, z1, cL, T.na_Lengths__start, rfl, ?_⟩)
    walk_at "wi"
    refine ⟨fun hb => ?_, fun hb => ?_⟩
    · have hb := of_decide_eq_true hb
      refine s_ret (w_tcnt (w_sl (w_fld (w_var rfl ⟨_, _, _, _, _, rfl, z1, cL, T.na_Lengths__marks, rfl, ?_⟩))))
      walk_at "w"
      refine r_slF z4 ?_ fun l o h1 h2 hl => ?_
      · rw [List.length_map, ml, HT.sIx_nat]
        omega
      rw [cut_hi, ← List.map_take]
      refine ⟨l, o, _, rfl, upd_same, h1, h2, ?_⟩
      walk_at "w"
      refine ⟨upd_same, ?_⟩
      rw [cnt_lo (by omega)]
      exact h _ (ext_new hl) 0
    · have hb := of_decide_eq_false hb
      obtain ⟨d, rfl⟩ : ∃ d, n = nr.length + d := ⟨n - nr.length, by omega⟩
      walk_at "wi"
      refine w_fld (w_var rfl ⟨_, _, _, _, _, rfl, z1, cL, T.na_Lengths__start, rfl, ?_⟩)
      walk_at "wi"
      refine w_fld (w_var rfl ⟨_, _, _, _, _, rfl, z1, cL, T.na_Lengths__period, rfl, w_nil (r_divmod ⟨by omega, by omega⟩ fun p hp => ?_)⟩)
      have ed : ((nr.length + d : Nat) : Int) - (nr.length : Int) = (d : Int) := by omega
      rw [ed, ← Int.natCast_ediv, ← Int.natCast_emod]
      have e1 : Ext kn (upd kn p (.tup [.int ((d / tn.length : Nat) : Int), .int ((d % tn.length : Nat) : Int)])) := ext_new hp
      have P1 : (upd kn p (.tup [.int ((d / tn.length : Nat) : Int), .int ((d % tn.length : Nat) : Int)])) p = some (.tup [.int ((d / tn.length : Nat) : Int), .int ((d % tn.length : Nat) : Int)]) := upd_same
      generalize upd kn p (.tup [.int ((d / tn.length : Nat) : Int), .int ((d % tn.length : Nat) : Int)]) = k1 at e1 P1 ⊢
      have hm := Nat.mod_lt d tp
      refine g_tup P1 rfl ?_
      walk_at "wi"
      refine w_fld (w_var rfl ⟨_, _, _, _, _, rfl, e1 _ _ z1, cL, T.na_Lengths__marks, rfl, ?_⟩)
      walk_at "wi"
      refine w_fld (w_var rfl ⟨_, _, _, _, _, rfl, e1 _ _ z1, cL, T.na_Lengths__start, rfl, ?_⟩)
      walk_at "wi"
      refine w_fld (w_var rfl ⟨_, _, _, _, _, rfl, e1 _ _ z1, cL, T.na_Lengths__start, rfl, ?_⟩)
      walk_at "wi"
      rw [← Int.natCast_add]
      refine r_slF (e1 _ _ z4) ?_ fun l o h1 h2 hl => ?_
      · rw [List.length_map, ml, HT.sIx_nat, HT.sIx_nat]
        omega
      rw [cut_mid (by rw [List.length_map, ml]; omega), ← List.map_drop, ← List.map_take]
      have e2 : Ext k1 (upd k1 l (.frz o (.tup (List.map V.bl (((marks nr tn).drop nr.length).take (d % tn.length)))))) := ext_new hl
      have P2 : (upd k1 l (.frz o (.tup (List.map V.bl (((marks nr tn).drop nr.length).take (d % tn.length)))))) l = some (.frz o (.tup (List.map V.bl (((marks nr tn).drop nr.length).take (d % tn.length))))) := upd_same
      generalize upd k1 l (.frz o (.tup (List.map V.bl (((marks nr tn).drop nr.length).take (d % tn.length))))) = k2 at e2 P2 ⊢
      have e3 := ext_tr e1 e2
      walk_at "wi"
      refine w_fld (w_var rfl ⟨_, _, _, _, _, rfl, e3 _ _ z1, cL, T.na_Lengths__low, rfl, ?_⟩)
      have z2' := e3 _ _ z2
      have z3' := e3 _ _ z3
      walk_at "wi"
      refine w_fld (w_var rfl ⟨_, _, _, _, _, rfl, e3 _ _ z1, cL, T.na_Lengths__rests, rfl, ?_⟩)
      walk_at "wi"
      have il := idx_len tn
      refine r_I (.inr ⟨by rw [List.length_map]; omega, by rw [List.length_map]; omega⟩) ?_
      walk_at "wi"
      refine w_tcnt (w_var rfl ⟨l, o, _, rfl, P2, h1, h2, ?_⟩)
      walk_at "w"
      refine ⟨P2, ?_⟩
      walk_at "w"
      rw [List.length_map, List.length_map, ← Int.natCast_mul, ← Int.natCast_add, ← Int.natCast_add, cnt_hi tp]
      exact h _ e3 0
end
end L

end NN

namespace NN
open PySem PySem.Spec PyProof.Rows L2 LamX AW ClX
open Tx1 Ln D S L
/-! ### counted -/
def nts (p : Int → Bool) (f e : Int) : List Int := ((List.range (e - f).toNat).map fun (i : Nat) => f + (i : Int)).filter p
def cntI (p : Int → Bool) (f e : Int) : Int := ((nts p f e).length : Nat)
theorem len_or (p q : Int → Bool) : ∀ l : List Int, (l.filter fun x => p x || q x).length + (l.filter fun x => p x && q x).length = (l.filter p).length + (l.filter q).length
  | [] => rfl
  | x :: l => by
    have ih := len_or p q l
    cases hp : p x <;> cases hq : q x <;> simp [List.filter_cons, hp, hq] <;> omega
theorem len_andn (p q : Int → Bool) : ∀ l : List Int, (l.filter fun x => p x && !q x).length + (l.filter fun x => p x && q x).length = (l.filter p).length
  | [] => rfl
  | x :: l => by
    have ih := len_andn p q l
    cases hp : p x <;> cases hq : q x <;> simp [List.filter_cons, hp, hq] <;> omega
theorem len_not (p : Int → Bool) : ∀ l : List Int, (l.filter fun x => !p x).length + (l.filter p).length = l.length
  | [] => rfl
  | x :: l => by
    have ih := len_not p l
    cases hp : p x <;> simp [List.filter_cons, hp] <;> omega
theorem len_le (p q : Int → Bool) (h : ∀ x, p x = true → q x = true) : ∀ l : List Int, (l.filter p).length ≤ (l.filter q).length
  | [] => Nat.le_refl _
  | x :: l => by
    have ih := len_le p q h l
    cases hp : p x with
    | true => simp [List.filter_cons, hp, h x hp]; omega
    | false => cases hq : q x <;> simp [List.filter_cons, hp, hq] <;> omega
theorem cnt_or (p q : Int → Bool) (f e : Int) : cntI (fun x => or (p x) (q x)) f e = cntI p f e + cntI q f e - cntI (fun x => and (p x) (q x)) f e := by
  have := len_or p q ((List.range (e - f).toNat).map fun (i : Nat) => f + (i : Int))
  unfold cntI nts
  omega
theorem cnt_andn (p q : Int → Bool) (f e : Int) : cntI (fun x => D.andn (p x) (q x)) f e = cntI p f e - cntI (fun x => and (p x) (q x)) f e := by
  have : ((((List.range (e - f).toNat).map fun (i : Nat) => f + (i : Int))).filter fun x => D.andn (p x) (q x)).length + (((List.range (e - f).toNat).map fun (i : Nat) => f + (i : Int)).filter fun x => and (p x) (q x)).length = (((List.range (e - f).toNat).map fun (i : Nat) => f + (i : Int)).filter p).length := len_andn p q _
  unfold cntI nts
  omega
theorem cnt_not (p : Int → Bool) {f e : Int} (h : f ≤ e) : cntI (fun x => !p x) f e = e - f - cntI p f e := by
  have := len_not p ((List.range (e - f).toNat).map fun (i : Nat) => f + (i : Int))
  rw [List.length_map, List.length_range] at this
  unfold cntI nts
  omega
theorem cnt_le {p q : Int → Bool} (h : ∀ x, p x = true → q x = true) (f e : Int) : cntI p f e ≤ cntI q f e := by
  have := len_le p q h ((List.range (e - f).toNat).map fun (i : Nat) => f + (i : Int))
  unfold cntI nts
  omega
theorem cnt_cg {p q : Int → Bool} (h : ∀ x, p x = q x) (f e : Int) : cntI p f e = cntI q f e := by
  rw [show p = q from funext h]
theorem cnt_sh (p : Int → Bool) (k f e : Int) : cntI (fun x => p (x - k)) (f + k) (e + k) = cntI p f e := by
  unfold cntI nts
  rw [show (e + k - (f + k)) = e - f by omega, List.filter_map, List.length_map, List.filter_map, List.length_map]
  congr 2
  apply List.filter_congr
  intro i _
  show p (f + k + (i : Int) - k) = p (f + (i : Int))
  congr 1
  omega
theorem cnt_cut (p : Int → Bool) {f d e : Int} (h1 : f ≤ d) (h2 : d ≤ e) : cntI p f d + cntI p d e = cntI p f e := by
  unfold cntI nts
  have r : (e - f).toNat = (d - f).toNat + (e - d).toNat := by omega
  rw [r, List.range_add, List.map_append, List.filter_append, List.length_append, List.map_map]
  have : (List.map (fun (i : Nat) => d + (i : Int)) (List.range (e - d).toNat)) = List.map ((fun (i : Nat) => f + (i : Int)) ∘ fun x => (d - f).toNat + x) (List.range (e - d).toNat) := by
    apply List.map_congr_left
    intro i _
    show d + (i : Int) = f + (((d - f).toNat + i : Nat) : Int)
    omega
  rw [this]
  omega
theorem mem_nts {p : Int → Bool} {f e x : Int} : x ∈ nts p f e ↔ f ≤ x ∧ x < e ∧ p x = true := by
  unfold nts
  rw [List.mem_filter, List.mem_map]
  constructor
  · rintro ⟨⟨i, hi, rfl⟩, hp⟩
    have := List.mem_range.1 hi
    exact ⟨by omega, by omega, hp⟩
  · rintro ⟨h1, h2, hp⟩
    exact ⟨⟨(x - f).toNat, List.mem_range.2 (by omega), by omega⟩, hp⟩
/-- the first one -/
theorem nts_first {p : Int → Bool} {f e : Int} {j : Nat} (h : ∀ l : Nat, l < j → p (f + l) = false) (hp : p (f + j) = true) (hj : f + j < e) : ∃ r, nts p f e = (f + j) :: r := by
  unfold nts
  obtain ⟨m, hm⟩ : ∃ m, (e - f).toNat = j + (m + 1) := ⟨(e - f).toNat - j - 1, by omega⟩
  rw [hm, List.range_add, List.map_append, List.filter_append]
  have e1 : ((List.range j).map fun (i : Nat) => f + (i : Int)).filter p = [] := by
    rw [List.filter_eq_nil_iff]
    intro x hx
    obtain ⟨i, hi, rfl⟩ := List.mem_map.1 hx
    rw [h i (List.mem_range.1 hi)]
    decide
  rw [e1, List.nil_append, List.range_succ_eq_map, List.map_cons, List.map_cons, List.filter_cons]
  rw [show (f + ((j + 0 : Nat) : Int)) = f + (j : Int) by omega, if_pos hp]
  exact ⟨_, rfl⟩
theorem nts_nil {p : Int → Bool} {f e : Int} (h : ∀ x, f ≤ x → x < e → p x = false) : nts p f e = [] := by
  cases z : nts p f e with
  | nil => rfl
  | cons x r =>
    have m : x ∈ nts p f e := by rw [z]; exact .head _
    obtain ⟨a, b, c⟩ := mem_nts.1 m
    rw [h x a b] at c
    cases c
theorem int_ne {i j : Int} (h : i = j) : (!decide (V.int i = V.int j)) = false := by subst h; simp
theorem int_same {i j : Int} (h : i = j) : decide (V.int i = V.int j) = true := by subst h; simp
def pI (p : Int → Bool) : V → Bool
  | .int i => p i
  | _ => false
theorem rg_nts (p : Int → Bool) (f e : Int) : (rgV f e).filter (pI p) = (nts p f e).map V.int := by
  unfold rgV nts
  rw [List.filter_map, List.filter_map, List.map_map]
  rfl
section
variable {c : Cw} {kn : Hp} {n : Nat} {σ : L2.St} {Q : V → Hp → Nat → Prop} {K : PySem.W.Frag} {mg : Str → Option Value}
/-- [n for n in stay if ..] -/
theorem w_lcNights {C a : Addr} {f e : Int} {te : TE} {tt : TT} {m : Nat} {p : Int → Bool} (st : StayAt C kn a f e) (hte : ∀ R : V → Hp → Nat → Prop, R (.ref a) kn n → W c (te σ) kn n R)
    (h9 : ∀ v : V, ((wipe σ [m]).set m (some v))[m]? = some (some v)) (hw : ∀ v : V, wipe ((wipe σ [m]).set m (some v)) [m] = wipe σ [m])
    (ht : ∀ (i : Int) (k : Hp) (R : Bool → Hp → Nat → Prop), Ext kn k → R (p i) k n → W c (tt ((wipe σ [m]).set m (some (.int i)))) k n R)
    (hq : ∀ D, kn D = none → Q (.ref D) (upd kn D (.lst ((nts p f e).map V.int))) n) :
    W c (tLc (iOwnT K C "_nights" te) (gName m) tt (tVar m) [m] σ) kn n Q := by
  obtain ⟨dx, q, z1, z2⟩ := st.at_
  have l1 := st.lt
  have l2 := st.most
  refine w_lcP (i_own (hte _ ⟨a, dx, _, q, _, rfl, z1, rfl, z2, ?_⟩))
  refine ⟨rgV f e, _, (fun v => v), pI p, gives_tup, by rw [rgV_length]; omega, fun k x => x _ _ z2, fun x hx k ek => ?_, fun D hD => ?_⟩
  · unfold rgV at hx
    obtain ⟨i, hm, rfl⟩ := List.mem_map.1 hx
    refine g_name ⟨rfl, rfl, hw _, ?_⟩
    exact ht _ k _ ek ⟨rfl, rfl, rfl, fun _ => w_var (h9 _) ⟨rfl, rfl, rfl⟩⟩
  · rw [List.map_id', rg_nts]
    exact hq D hD
end
/-! ### the law's days, how many nights lie on them -/
def bDaysL (C : Addr) : List V → Hp → AK → AXK → Prop := fun vs kn Q _ => ∃ l, ∃ ns : List Nat, vs = [.ref l] ∧ kn l = some (.lst (natV ns)) ∧ 0 < ns.length ∧ ns.length ≤ 100 ∧ (∀ n ∈ ns, 1 ≤ n ∧ n ≤ 7) ∧ ∀ s t, s ∈ ns → t.length ∣ s → NewD C kn t Q
theorem mo_daysL {C : Addr} : MonoX (bDaysL C) := by
  rintro vs kn Q R E F h1 h2 ⟨l, ns, a, b, c, d, e, h⟩
  exact ⟨l, ns, a, b, c, d, e, fun s t z1 z2 x k z3 z4 z5 => h1 _ _ (h s t z1 z2 x k z3 z4 z5)⟩
def bMany (CS CD : Addr) : List V → Hp → AK → AXK → Prop := fun vs kn Q _ => ∃ s f e a t, vs = [.ref s, .ref a] ∧ StayAt CS kn s f e ∧ DayAt CD kn a t ∧ ∀ k', Ext kn k' → Q (.int (cntI (inD t) f e)) k'
theorem mo_many {CS CD : Addr} : MonoX (bMany CS CD) := by
  rintro vs kn Q R E F h1 h2 ⟨s, f, e, a, t, b, c, d, h⟩
  exact ⟨s, f, e, a, t, b, c, d, fun k z => h1 _ _ (h k z)⟩
theorem form_dvd {p : Nat} {ys : List Nat} (h : 1 ≤ p) : (D.formT p ys).length ∣ p := by
  rw [D.form_len]
  have := (leastP_per (t := maskOf p ys) (by rw [mask_len]; omega)).1
  rw [mask_len] at this
  exact Nat.dvd_of_mod_eq_zero this
section
variable {P : Program} {w : World} {K : PySem.W.Frag} {mg : Str → Option Value} {base : Heap}
theorem ok__law_days (T : Tx K mg) : FnOk P w K mg base CX0 8 T.f__law_days T.d__law_days ["pen", "some"] (liftP [] 9 (bDaysL T.c_Days)) := by
  refine T.F__law_days.ok sc__law_days (fun vs H Q E h => ?_) (fun cdv A outer s H vs Q E hr h => ?_)
  · obtain ⟨p, a, ns, n, kn, ws, rfl, _, _, l, xs, rfl, _⟩ := h
    rfl
  · obtain ⟨p, a, ns, n, kn, ws, rfl, g, hn, l, xs, rfl, hl, x0, x1, hx, h⟩ := h
    refine ⟨_, (pss_cons (ps_set (i := 2) sc__law_days.nd rfl (by first | exact Or.inl rfl | exact Or.inr rfl) (pe_call (ok__law_pick T []) (hr.mono (by decide)) (by rfl) T.g__law_pick T.F__law_pick.kp T.bd__law_pick .nil pass0 (pa_cons (pv 0) (pa_cons (pv 1) pa_nil))))
       (pss_one (ps_ret (pe_make T.mk_Days (ok_Days___init__ T) (hr.mono (by decide)) (by rfl) T.g_Days T.bd_Days___init__ .nil passL (pa_cons (pv 2) (pa_cons (pe_lc (own := [("rest", 3)]) (g := gName 3) (by rfl) sc__law_days.nd (pi_range1 (by rfl) T.b_range (pa_cons (pv 2) pa_nil)) (blkOk_by (own := [("rest", 3)]) (N := ["pen", "some", "size", "rest"]) (sc := defScope s__law_days) (by decide +kernel)) (fun _ _ _ _ _ => pg_name (i := 3) sc__law_days.nd rfl (Or.inl rfl)) (fun _ _ _ _ _ => (pts_one (pt_cmpR op_eq (pe_call (ok__law_draw T) (hr.mono (by decide)) (by rfl) T.g__law_draw T.F__law_draw.kp T.bd__law_draw .nil pass0 (pa_cons (pv 0) (pa_cons pe_int pa_nil))) pe_int (nomark _)))) (fun _ _ _ _ _ => (pv 3))) pa_nil)))))), ?_⟩
    refine body_of g ?_
    walk_at "w"
    refine w_callP mo_pick err_no ?_
    walk_at "w"
    refine ⟨by omega, l, _, rfl, hl, by rw [List.length_map]; exact x0, by rw [List.length_map]; omega, fun v hv => ?_⟩
    obtain ⟨s, hs, rfl⟩ := List.mem_map.1 hv
    obtain ⟨s1, s7⟩ := hx s hs
    walk_at "w"
    refine w_days (EA := fun _ _ _ _ => False) err_no ?_
    walk_at "w"
    refine w_lcOver (s := s) rfl (fun _ => rfl) (fun _ => rfl) (fun _ => rfl) (by omega) (by omega) fun l2 ys n2 hl2 ysl yl n2l => ?_
    walk_at "w"
    refine ⟨_, _, rfl, D.make_good s1 s7 ysl (by omega) ⟨l2, rfl, .inl upd_same⟩ fun x k e nn d => ?_⟩
    exact fin_at (by omega) (h s _ hs (form_dvd s1) x k (ext_tr (ext_new hl2) e) (free_ext (ext_new hl2) nn) d)
theorem ok__law_many (T : Tx K mg) : FnOk P w K mg base CX0 4 T.f__law_many T.d__law_many ["stay_so", "days_so"] (liftX (bMany T.c_Stay T.c_Days)) := by
  refine T.F__law_many.ok sc__law_many (fun vs H Q E h => ?_) (fun cdv A outer s H vs Q E hr h => ?_)
  · obtain ⟨kn, _, _, s, f, e, a, t, rfl, _⟩ := h
    rfl
  · obtain ⟨kn, ex, nt, s, f, e, a, t, rfl, st, da, h⟩ := h
    refine ⟨_, (pss_one (ps_ret (pe_callB c_len (by rfl) T.b_len PySem.boot_len (pa_cons (pe_lc (own := [("n", 2)]) (g := gName 2) (by rfl) sc__law_many.nd (pi_ownT T.sm_Stay___iter__ (oN_Stay___iter__ T) T.bd_Stay___iter__ (hr.mono (by decide)) (pv 0)) (blkOk_by (own := [("n", 2)]) (N := ["stay_so", "days_so", "n"]) (sc := defScope s__law_many) (by decide +kernel)) (fun _ _ _ _ _ => pg_name (i := 2) sc__law_many.nd rfl (Or.inl rfl)) (fun _ _ _ _ _ => (pts_one (pt_cmpR (op_inO T.sm_Days___contains__ (ok_Days___contains__ T) (hr.mono (by decide)) T.bd_Days___contains__ pass0) (pv 2) (pv 1) (by rfl)))) (fun _ _ _ _ _ => (pv 2))) pa_nil)))), ?_⟩
    refine body_of (pure_start ex nt) ?_
    walk_at "w"
    refine w_lcNights (p := inD t) st (fun R hR => w_var rfl hR) (fun _ => rfl) (fun _ => rfl) (fun i k R ek hR => ?_) fun D hD => ?_
    · walk_at "w"
      refine r_hasD (DayAt.ext ek da) ?_
      exact ⟨_, rfl, hR⟩
    · walk_at "w"
      rw [List.length_map]
      exact h _ (ext_new hD) 0
end

end NN

namespace NN
open PySem PySem.Spec PyProof.Rows L2 LamX AW ClX
open Tx1 Ln D S L
-- a stay that is known
local macro_rules | `(tactic| walk_at "st") => `(tactic| first
  | assumption
  | ((with_reducible refine' StayAt.ext ?h1 ?h2); (case h1 => assumption); (case h2 => walk_at "st"))
  | ((with_reducible refine' StayAt.ext ?h1 ?h2); (case h1 => exact ext_new (by assumption)); (case h2 => walk_at "st")))
local macro_rules | `(tactic| walk_at "w2") => `(tactic| first
  | ((with_reducible refine' w_first ?h1 ?h2 ?h3 ?h4 ?_); (case h3 => rfl); (case h4 => walk_at "st"); (case h1 => assumption); (case h2 => assumption))
  | ((with_reducible refine' w_after ?h1 ?h2 ?h3 ?h4 ?_); (case h3 => rfl); (case h4 => walk_at "st"); (case h1 => assumption); (case h2 => assumption))
  | ((with_reducible refine' w_nights ?h1 ?h2 ?h3 ?h4 ?_); (case h3 => rfl); (case h4 => walk_at "st"); (case h1 => assumption); (case h2 => assumption)))
local macro_rules | `(tactic| walk_at "w") => `(tactic| repeat (first | walk_at "w1" | walk_at "w2" | dsimp only))
local macro_rules | `(tactic| walk_at "wi") => `(tactic| repeat (first | walk_at "w1" | walk_at "w2" | with_reducible refine' s_if ?_ | dsimp only))

theorem s_par3 {c : Cw} {kn : Hp} {n : Nat} {σ : L2.St} {D : AE} {i j l : Nat} {ta : TA} (h : W c (ta σ) kn n fun vs kn1 n1 => ∃ u v w, vs = [u, v, w] ∧ D.nx (((σ.set i (some u)).set j (some v)).set l (some w)) kn1 n1) : WS c (tPar3 i j l ta) D σ kn n :=
  fun H g D' f => h H g _ fun vs kn1 n1 H1 ⟨u, v, w, e, hq⟩ g1 => ⟨u, v, w, e, f.nx _ _ _ _ hq g1⟩
section
variable {c : Cw} {kn : Hp} {n : Nat} {σ : L2.St} {Q : V → Hp → Nat → Prop} {K : PySem.W.Frag} {mg : Str → Option Value}
theorem r_joinD (T : Tx K mg) {op : Operator} {f : Bool → Bool → Bool} {E : XK} {a b : Addr} {t u : List Bool} (da : DayAt T.c_Days kn a t) (db : DayAt T.c_Days kn b u) (l7 : Nat.lcm t.length u.length ≤ 7)
    (q : ∀ r x k, Least r → (∀ i, inD r i = f (inD t i) (inD u i)) → Ext kn k → DayAt T.c_Days k x r → Q (.ref x) k n) : W c (rOwn K op T.c_Days (liftX (D.bJoin f T.c_Days T.c_TooMany)) E (.ref a) (.ref b)) kn n Q := by
  obtain ⟨dx, p, z1, z2⟩ := da.at_
  obtain ⟨dx', p', y1, y2⟩ := db.at_
  exact r_own (EA := fun _ _ _ _ => False) D.mo_join err_no z1 (T.own_Days.ty y1) .own ⟨a, b, t, u, rfl, da, db, fun _ r l i x k e n' d => q r x k l i e d, fun z => by omega⟩
theorem r_invD (T : Tx K mg) {E : XK} {a : Addr} {t : List Bool} (da : DayAt T.c_Days kn a t)
    (k : ∀ r x k', Least r → (∀ i, inD r i = !inD t i) → Ext kn k' → DayAt T.c_Days k' x r → Q (.ref x) k' n) : W c (rUnO T.c_Days (liftX (D.bInv T.c_Days)) E (.ref a)) kn n Q := by
  obtain ⟨dx, p, z1, z2⟩ := da.at_
  exact fun H g Q' qq => ⟨a, dx, _, rfl, g.ex _ _ z1, sp_call (EA := fun _ _ _ _ => False) D.mo_inv err_no ⟨a, t, rfl, da, fun r l i x k' e n d => k r x k' l i e d⟩ H g Q' qq⟩
theorem r_shrD (T : Tx K mg) {E : XK} {a : Addr} {t : List Bool} {k : Int} (da : DayAt T.c_Days kn a t)
    (q : ∀ r x k', Least r → (∀ i, inD r i = inD t (i - k)) → Ext kn k' → DayAt T.c_Days k' x r → Q (.ref x) k' n) : W c (rOwn K .RShift T.c_Days (liftX (D.bSh T.c_Days 1)) E (.ref a) (.int k)) kn n Q := by
  obtain ⟨dx, p, z1, z2⟩ := da.at_
  exact r_own (EA := fun _ _ _ _ => False) D.mo_sh err_no z1 (.base (.int _)) (ot_int_shr T.si_Days) ⟨a, t, k, rfl, da, fun r l i x k2 e _ d => q r x k2 l (fun y => by rw [i, Int.one_mul]) e d⟩
theorem r_shlD (T : Tx K mg) {E : XK} {a : Addr} {t : List Bool} {k : Int} (da : DayAt T.c_Days kn a t)
    (q : ∀ r x k', Least r → (∀ i, inD r i = inD t (i - -k)) → Ext kn k' → DayAt T.c_Days k' x r → Q (.ref x) k' n) : W c (rOwn K .LShift T.c_Days (liftX (D.bSh T.c_Days (-1))) E (.ref a) (.int k)) kn n Q := by
  obtain ⟨dx, p, z1, z2⟩ := da.at_
  exact r_own (EA := fun _ _ _ _ => False) D.mo_sh err_no z1 (.base (.int _)) (ot_int_shl T.si_Days) ⟨a, t, k, rfl, da, fun r l i x k2 e _ d => q r x k2 l (fun y => by rw [i]; congr 1; omega) e d⟩
end
def bCounts (CS CD : Addr) : List V → Hp → AK → AXK → Prop := fun vs kn Q _ => ∃ s f e a b t u, vs = [.ref s, .ref a, .ref b] ∧ StayAt CS kn s f e ∧ DayAt CD kn a t ∧ DayAt CD kn b u ∧ Nat.lcm t.length u.length ≤ 7 ∧ ∀ k', Ext kn k' → Q (.bl true) k'
theorem mo_counts {CS CD : Addr} : MonoX (bCounts CS CD) := by
  rintro vs kn Q R E F h1 h2 ⟨s, f, e, a, b, t, u, x1, x2, x3, x4, x5, h⟩
  exact ⟨s, f, e, a, b, t, u, x1, x2, x3, x4, x5, fun k z => h1 _ _ (h k z)⟩
section
variable {P : Program} {w : World} {K : PySem.W.Frag} {mg : Str → Option Value} {base : Heap}
theorem ok__law_counts_right (T : Tx K mg) : FnOk P w K mg base CX0 12 T.f__law_counts_right T.d__law_counts_right ["stay_so", "one", "other"] (liftX (bCounts T.c_Stay T.c_Days)) := by
  refine T.F__law_counts_right.ok sc__law_counts_right (fun vs H Q E h => ?_) (fun cdv A outer s H vs Q E hr h => ?_)
  · obtain ⟨kn, _, _, s, f, e, a, b, t, u, rfl, _⟩ := h
    rfl
  · obtain ⟨kn, ex, nt, s, f, e, a, b, t, u, rfl, st, da, db, l7, h⟩ := h
    refine ⟨_, (pss_cons (ps_par3 (i := 3) (j := 4) (l := 5) (by rfl) sc__law_counts_right.nd rfl rfl rfl (by decide) (by decide) (by decide) rfl rfl rfl (pa_cons (pe_call (ok__law_many T) (hr.mono (by decide)) (by rfl) T.g__law_many T.F__law_many.kp T.bd__law_many .nil pass0 (pa_cons (pv 0) (pa_cons (pv 1) pa_nil))) (pa_cons (pe_call (ok__law_many T) (hr.mono (by decide)) (by rfl) T.g__law_many T.F__law_many.kp T.bd__law_many .nil pass0 (pa_cons (pv 0) (pa_cons (pv 2) pa_nil))) (pa_cons (pe_call (ok__law_many T) (hr.mono (by decide)) (by rfl) T.g__law_many T.F__law_many.kp T.bd__law_many .nil pass0 (pa_cons (pv 0) (pa_cons (pe_op (op_own T.op_Days_and (ok_Days___and__ T) (hr.mono (by decide)) T.bd_Days___and__ passL) (pv 1) (pv 2)) pa_nil))) pa_nil))) (by rfl))
       (pss_cons (ps_if (PW.pt (pw_or (pt_cmpR op_ne (pe_call (ok__law_many T) (hr.mono (by decide)) (by rfl) T.g__law_many T.F__law_many.kp T.bd__law_many .nil pass0 (pa_cons (pv 0) (pa_cons (pe_op (op_own T.op_Days_or (ok_Days___or__ T) (hr.mono (by decide)) T.bd_Days___or__ passL) (pv 1) (pv 2)) pa_nil))) (pe_op op_sub (pe_op op_add (pv 3) (pv 4)) (pv 5)) (nomark _)) (pw_or1 (pt_cmpR op_ne (pe_call (ok__law_many T) (hr.mono (by decide)) (by rfl) T.g__law_many T.F__law_many.kp T.bd__law_many .nil pass0 (pa_cons (pv 0) (pa_cons (pe_op (op_own T.op_Days_sub (ok_Days___sub__ T) (hr.mono (by decide)) T.bd_Days___sub__ passL) (pv 1) (pv 2)) pa_nil))) (pe_op op_sub (pv 3) (pv 5)) (nomark _)))))
       (pss_one (ps_ret pe_bl))
       pss_nil)
       (pss_one (ps_ret (pe_and (pe_cmpR op_eq (pe_call (ok__law_many T) (hr.mono (by decide)) (by rfl) T.g__law_many T.F__law_many.kp T.bd__law_many .nil pass0 (pa_cons (pv 0) (pa_cons (pe_un (un_invO T.fi_Days___invert__ T.isf_Days___invert__ (ok_Days___invert__ T) (hr.mono (by decide)) T.bd_Days___invert__ pass0) (pv 1)) pa_nil))) (pe_op op_sub (pe_callB (c_lenO T.sm_Stay___len__ (ok_Stay___len__ T) (hr.mono (by decide)) T.bd_Stay___len__ pass0) (by rfl) T.b_len (by decide +kernel) (pa_cons (pv 0) pa_nil)) (pv 3)) (nomark _)) (pe_one (pe_or (pe_not (pe_cmpR (op_cmpO (fun _ _ => rfl) T.cm_Days_le (ok_Days___le__ T) (hr.mono (by decide)) T.bd_Days___le__ pass0) (pv 1) (pv 2) (nomark _))) (pe_one (pe_cmpR op_le (pv 3) (pv 4) (nomark _)))))))))), ?_⟩
    refine body_of (pure_start ex nt) ?_
    have lt := st.lt
    refine s_seq (s_par3 ?_)
    walk_at "w"
    refine w_call (EA := fun _ _ _ _ => False) mo_many err_no ?_
    walk_at "w"
    refine ⟨s, f, e, a, t, rfl, st, da, fun k1 e1 => ?_⟩
    walk_at "w"
    refine w_call (EA := fun _ _ _ _ => False) mo_many err_no ?_
    walk_at "w"
    refine ⟨s, f, e, b, u, rfl, StayAt.ext e1 st, DayAt.ext e1 db, fun k2 e2 => ?_⟩
    have e2 := ext_tr e1 e2
    walk_at "w"
    refine w_call (EA := fun _ _ _ _ => False) mo_many err_no ?_
    walk_at "w"
    refine r_joinD T (DayAt.ext e2 da) (DayAt.ext e2 db) l7 fun r x k3 l i e3 d => ?_
    have e3 := ext_tr e2 e3
    walk_at "w"
    refine ⟨s, f, e, x, r, rfl, StayAt.ext e3 st, d, fun k4 e4 => ?_⟩
    have e4 := ext_tr e3 e4
    rw [cnt_cg i f e]
    clear e1 e2 e3 d i l
    walk_at "w"
    refine ⟨_, _, _, rfl, ?_⟩
    walk_at "wi"
    refine w_call (EA := fun _ _ _ _ => False) mo_many err_no ?_
    walk_at "w"
    refine r_joinD T (DayAt.ext e4 da) (DayAt.ext e4 db) l7 fun r x k5 l i e5 d => ?_
    have e5 := ext_tr e4 e5
    walk_at "w"
    refine ⟨s, f, e, x, r, rfl, StayAt.ext e5 st, d, fun k6 e6 => ?_⟩
    have e6 := ext_tr e5 e6
    rw [cnt_cg i f e]
    clear e4 e5 d i l
    walk_at "w"
    rw [int_ne (cnt_or _ _ f e)]
    walk_at "wi"
    refine w_call (EA := fun _ _ _ _ => False) mo_many err_no ?_
    walk_at "w"
    refine r_joinD T (DayAt.ext e6 da) (DayAt.ext e6 db) l7 fun r x k7 l i e7 d => ?_
    have e7 := ext_tr e6 e7
    walk_at "w"
    refine ⟨s, f, e, x, r, rfl, StayAt.ext e7 st, d, fun k8 e8 => ?_⟩
    have e8 := ext_tr e7 e8
    rw [cnt_cg i f e]
    clear e6 e7 d i l
    walk_at "w"
    rw [int_ne (cnt_andn _ _ f e)]
    walk_at "wi"
    refine w_call (EA := fun _ _ _ _ => False) mo_many err_no ?_
    walk_at "w"
    refine r_invD T (DayAt.ext e8 da) fun r x k9 l i e9 d => ?_
    have e9 := ext_tr e8 e9
    walk_at "w"
    refine ⟨s, f, e, x, r, rfl, StayAt.ext e9 st, d, fun k10 e10 => ?_⟩
    have e10 := ext_tr e9 e10
    rw [cnt_cg i f e]
    clear e8 e9 d i l
    walk_at "w"
    refine r_lenS (StayAt.ext e10 st) ?_
    walk_at "w"
    rw [int_same (cnt_not _ (Int.le_of_lt lt))]
    walk_at "w"
    refine r_leD T (DayAt.ext e10 da) (DayAt.ext e10 db) fun k11 e11 => ?_
    have e11 := ext_tr e10 e11
    walk_at "w"
    refine ⟨fun hb => ?_, fun hb => ?_⟩
    · have hb : subB t u = true := by simpa using hb
      walk_at "w"
      rw [decide_eq_true (cnt_le ((subB_iff da.least db.least).1 hb) f e)]
      exact h _ e11 0
    · exact h _ e11 0
end

end NN

namespace NN
open PySem PySem.Spec PyProof.Rows L2 LamX AW ClX
open Tx1 Ln D S L
-- a stay that is known
local macro_rules | `(tactic| walk_at "st") => `(tactic| first
  | assumption
  | ((with_reducible refine' StayAt.ext ?h1 ?h2); (case h1 => assumption); (case h2 => walk_at "st"))
  | ((with_reducible refine' StayAt.ext ?h1 ?h2); (case h1 => exact ext_new (by assumption)); (case h2 => walk_at "st")))
local macro_rules | `(tactic| walk_at "w2") => `(tactic| first
  | ((with_reducible refine' w_first ?h1 ?h2 ?h3 ?h4 ?_); (case h3 => rfl); (case h4 => walk_at "st"); (case h1 => assumption); (case h2 => assumption))
  | ((with_reducible refine' w_after ?h1 ?h2 ?h3 ?h4 ?_); (case h3 => rfl); (case h4 => walk_at "st"); (case h1 => assumption); (case h2 => assumption))
  | ((with_reducible refine' w_nights ?h1 ?h2 ?h3 ?h4 ?_); (case h3 => rfl); (case h4 => walk_at "st"); (case h1 => assumption); (case h2 => assumption)))
local macro_rules | `(tactic| walk_at "w") => `(tactic| repeat (first | walk_at "w1" | walk_at "w2" | dsimp only))
local macro_rules | `(tactic| walk_at "wi") => `(tactic| repeat (first | walk_at "w1" | walk_at "w2" | with_reducible refine' s_if ?_ | dsimp only))

def bMovedL (CS CD : Addr) : List V → Hp → AK → AXK → Prop := fun vs kn Q _ => ∃ s f e a t, vs = [.ref s, .ref a] ∧ StayAt CS kn s f e ∧ DayAt CD kn a t ∧ -50000000000 ≤ f ∧ f ≤ 50000000000 ∧ ∀ k', Ext kn k' → Q (.bl true) k'
theorem mo_movedL {CS CD : Addr} : MonoX (bMovedL CS CD) := by
  rintro vs kn Q R E F h1 h2 ⟨s, f, e, a, t, x1, x2, x3, x4, x5, h⟩
  exact ⟨s, f, e, a, t, x1, x2, x3, x4, x5, fun k z => h1 _ _ (h k z)⟩
section
variable {P : Program} {w : World} {K : PySem.W.Frag} {mg : Str → Option Value} {base : Heap}
theorem ok__law_moved_right (T : Tx K mg) : FnOk P w K mg base CX0 12 T.f__law_moved_right T.d__law_moved_right ["pen", "stay_so", "one"] (liftP [] 3 (bMovedL T.c_Stay T.c_Days)) := by
  refine T.F__law_moved_right.ok sc__law_moved_right (fun vs H Q E h => ?_) (fun cdv A outer s H vs Q E hr h => ?_)
  · obtain ⟨p, a, ns, n, kn, ws, rfl, _, _, s, f, e, x, t, rfl, _⟩ := h
    rfl
  · obtain ⟨p, a, ns, n, kn, ws, rfl, g, hn, s, f, e, x, t, rfl, st, da, nr1, nr2, h⟩ := h
    refine ⟨_, (pss_cons (ps_set (i := 3) sc__law_moved_right.nd rfl (by first | exact Or.inl rfl | exact Or.inr rfl) (pe_call (ok__law_pick T []) (hr.mono (by decide)) (by rfl) T.g__law_pick T.F__law_pick.kp T.bd__law_pick .nil pass0 (pa_cons (pv 0) (pa_cons (pe_lst (pa_cons pe_int (pa_cons (pe_un un_neg pe_int) (pa_cons pe_int (pa_cons (pe_op op_sub pe_int (pe_call (ok__law_draw T) (hr.mono (by decide)) (by rfl) T.g__law_draw T.F__law_draw.kp T.bd__law_draw .nil pass0 (pa_cons (pv 0) (pa_cons pe_int pa_nil)))) (pa_cons (pe_call (ok__law_draw T) (hr.mono (by decide)) (by rfl) T.g__law_draw T.F__law_draw.kp T.bd__law_draw .nil pass0 (pa_cons (pv 0) (pa_cons (pe_op op_pow pe_int pe_int) pa_nil))) pa_nil)))))) pa_nil))))
       (pss_cons (ps_if (pt_cmpR op_ne (pe_call (ok__law_many T) (hr.mono (by decide)) (by rfl) T.g__law_many T.F__law_many.kp T.bd__law_many .nil pass0 (pa_cons (pe_op (op_own T.op_Stay_rshift (ok_Stay___rshift__ T) (hr.mono (by decide)) T.bd_Stay___rshift__ passL) (pv 1) (pv 3)) (pa_cons (pe_op (op_own T.op_Days_rshift (ok_Days___rshift__ T) (hr.mono (by decide)) T.bd_Days___rshift__ passL) (pv 2) (pv 3)) pa_nil))) (pe_call (ok__law_many T) (hr.mono (by decide)) (by rfl) T.g__law_many T.F__law_many.kp T.bd__law_many .nil pass0 (pa_cons (pv 1) (pa_cons (pv 2) pa_nil))) (nomark _))
       (pss_one (ps_ret pe_bl))
       pss_nil)
       (pss_cons (ps_if (pt_cmpR op_ne (pe_call (ok__law_many T) (hr.mono (by decide)) (by rfl) T.g__law_many T.F__law_many.kp T.bd__law_many .nil pass0 (pa_cons (pe_op (op_own T.op_Stay_lshift (ok_Stay___lshift__ T) (hr.mono (by decide)) T.bd_Stay___lshift__ passL) (pv 1) (pv 3)) (pa_cons (pe_op (op_own T.op_Days_lshift (ok_Days___lshift__ T) (hr.mono (by decide)) T.bd_Days___lshift__ passL) (pv 2) (pv 3)) pa_nil))) (pe_call (ok__law_many T) (hr.mono (by decide)) (by rfl) T.g__law_many T.F__law_many.kp T.bd__law_many .nil pass0 (pa_cons (pe_op (op_own T.op_Stay_rshift (ok_Stay___rshift__ T) (hr.mono (by decide)) T.bd_Stay___rshift__ passL) (pv 1) (pv 3)) (pa_cons (pe_op (op_own T.op_Days_rshift (ok_Days___rshift__ T) (hr.mono (by decide)) T.bd_Days___rshift__ passL) (pv 2) (pv 3)) pa_nil))) (nomark _))
       (pss_one (ps_ret pe_bl))
       pss_nil)
       (pss_one (ps_ret (pe_cmpR op_eq (pe_call (ok__law_many T) (hr.mono (by decide)) (by rfl) T.g__law_many T.F__law_many.kp T.bd__law_many .nil pass0 (pa_cons (pe_op (op_own T.op_Stay_rshift (ok_Stay___rshift__ T) (hr.mono (by decide)) T.bd_Stay___rshift__ passL) (pv 1) (pe_op op_mul (pe_prop (pv 2) T.cl_Days T.pp_Days_period (ok_Days_period T) (hr.mono (by decide)) T.bd_Days_period .nil pass0 (by rfl)) pe_int)) (pa_cons (pv 2) pa_nil))) (pe_call (ok__law_many T) (hr.mono (by decide)) (by rfl) T.g__law_many T.F__law_many.kp T.bd__law_many .nil pass0 (pa_cons (pv 1) (pa_cons (pv 2) pa_nil))) (nomark _))))))), ?_⟩
    refine body_of g ?_
    have l0 := st.lt
    have l1 := st.most
    walk_at "w"
    refine w_callP mo_pick err_no ?_
    walk_at "w"
    refine w_draw ?_
    walk_at "w"
    refine ⟨by omega, by decide, by decide, fun k1 k10 k11 => ?_⟩
    walk_at "w"
    refine w_draw ?_
    walk_at "w"
    refine r_I ⟨by decide, by decide, by decide⟩ ?_
    walk_at "w"
    refine ⟨by omega, by decide, by decide, fun k2 k20 k21 => ?_⟩
    have k21' : k2 < 1000000000 := k21
    walk_at "w"
    refine ⟨show 5 ≤ 1000 by decide, fun l hl => ?_⟩
    walk_at "w"
    refine ⟨by omega, _, _, rfl, upd_same, show 0 < 5 by decide, show 5 ≤ 1000 by decide, fun v hv => ?_⟩
    obtain ⟨k, rfl, b1, b2⟩ : ∃ k : Int, v = .int k ∧ -1000000000 ≤ k ∧ k ≤ 1000000000 := by
      simp only [List.mem_cons, List.mem_nil_iff, or_false] at hv
      rcases hv with rfl | rfl | rfl | rfl | rfl
      · exact ⟨_, rfl, by omega, by omega⟩
      · exact ⟨_, rfl, by omega, by omega⟩
      · exact ⟨_, rfl, by omega, by omega⟩
      · exact ⟨_, rfl, by omega, by omega⟩
      · exact ⟨_, rfl, by omega, by omega⟩
    have e1 : Ext kn (upd kn l (.lst [.int 1, .int (-1), .int 5, .int (0 - k1), .int k2])) := ext_new hl
    generalize upd kn l (.lst [.int 1, .int (-1), .int 5, .int (0 - k1), .int k2]) = kn1 at e1 ⊢
    have st := StayAt.ext e1 st
    have da := DayAt.ext e1 da
    have h : ∀ k', Ext kn1 k' → _ := fun k' z => h k' (ext_tr e1 z)
    clear hv hl
    walk_at "wi"
    refine w_call (EA := fun _ _ _ _ => False) mo_many err_no ?_
    walk_at "w"
    refine r_shr T st (day_of ⟨by omega, by omega⟩) (day_of ⟨by omega, by omega⟩) fun x1 k1 e1 _ s1 => ?_
    walk_at "w"
    refine r_shrD T (DayAt.ext e1 da) fun r y k2 lr ir e2 d2 => ?_
    have e2 := ext_tr e1 e2
    walk_at "w"
    refine ⟨x1, _, _, y, r, rfl, StayAt.ext (by assumption) s1, d2, fun k3 e3 => ?_⟩
    have e3 := ext_tr e2 e3
    rw [cnt_cg ir, cnt_sh]
    walk_at "w"
    refine w_call (EA := fun _ _ _ _ => False) mo_many err_no ?_
    walk_at "w"
    refine ⟨s, f, e, x, t, rfl, StayAt.ext e3 st, DayAt.ext e3 da, fun k4 e4 => ?_⟩
    have e4 := ext_tr e3 e4
    clear e1 e2 e3 d2 s1 lr ir
    walk_at "w"
    try rw [int_ne rfl]
    walk_at "wi"
    refine w_call (EA := fun _ _ _ _ => False) mo_many err_no ?_
    walk_at "w"
    refine r_shl T (StayAt.ext e4 st) (day_of ⟨by omega, by omega⟩) (day_of ⟨by omega, by omega⟩) fun x1 k5 e5 _ s1 => ?_
    walk_at "w"
    refine r_shlD T (DayAt.ext (ext_tr e4 e5) da) fun r y k6 lr ir e6 d2 => ?_
    walk_at "w"
    refine ⟨x1, _, _, y, r, rfl, StayAt.ext e6 s1, d2, fun k7 e7 => ?_⟩
    have e7 := ext_tr e4 (ext_tr e5 (ext_tr e6 e7))
    rw [cnt_cg ir, Int.sub_eq_add_neg, Int.sub_eq_add_neg, cnt_sh]
    walk_at "w"
    refine w_call (EA := fun _ _ _ _ => False) mo_many err_no ?_
    walk_at "w"
    refine r_shr T (StayAt.ext e7 st) (day_of ⟨by omega, by omega⟩) (day_of ⟨by omega, by omega⟩) fun x2 k8 e8 _ s2 => ?_
    walk_at "w"
    refine r_shrD T (DayAt.ext (ext_tr e7 e8) da) fun r2 y2 k9 lr2 ir2 e9 d3 => ?_
    walk_at "w"
    refine ⟨x2, _, _, y2, r2, rfl, StayAt.ext e9 s2, d3, fun k10 e10 => ?_⟩
    have e10 := ext_tr e7 (ext_tr e8 (ext_tr e9 e10))
    rw [cnt_cg ir2, cnt_sh]
    clear e4 e5 e6 e7 e8 e9 d2 d3 s1 s2 lr ir lr2 ir2
    walk_at "w"
    try rw [int_ne rfl]
    walk_at "wi"
    refine w_call (EA := fun _ _ _ _ => False) mo_many err_no ?_
    walk_at "w"
    refine w_per rfl (DayAt.ext e10 da) ?_
    have tp := da.least.pos
    have tl := da.least.le
    walk_at "w"
    first | refine r_I (.inl ⟨by omega, by omega⟩) ?_ | refine r_I (.inr ⟨by omega, by omega⟩) ?_ | refine r_I (by omega) ?_
    refine r_shr T (k := (t.length : Int) * 3) (StayAt.ext e10 st) (day_of ⟨by omega, by omega⟩) (day_of ⟨by omega, by omega⟩) fun x1 k11 e11 _ s1 => ?_
    have e11 := ext_tr e10 e11
    walk_at "w"
    refine ⟨x1, _, _, x, t, rfl, s1, DayAt.ext e11 da, fun k12 e12 => ?_⟩
    have e12 := ext_tr e11 e12
    have ep : cntI (inD t) (f + (t.length : Int) * 3) (e + (t.length : Int) * 3) = cntI (inD t) f e := by
      rw [← cnt_sh (inD t) ((t.length : Int) * 3) f e]
      refine cnt_cg (fun x => ?_) _ _
      have := inD_per (t := t) (x - (t.length : Int) * 3) 3
      rw [← this]
      congr 1
      omega
    rw [ep]
    walk_at "w"
    refine w_call (EA := fun _ _ _ _ => False) mo_many err_no ?_
    walk_at "w"
    refine ⟨s, f, e, x, t, rfl, StayAt.ext e12 st, DayAt.ext e12 da, fun k13 e13 => ?_⟩
    walk_at "w"
    try rw [int_same rfl]
    exact fin_at (by omega) (h _ (ext_tr e12 e13))
end

end NN

namespace NN
open PySem PySem.Spec PyProof.Rows L2 LamX AW ClX
open Tx1 Ln D S L
-- a stay that is known
local macro_rules | `(tactic| walk_at "st") => `(tactic| first
  | assumption
  | ((with_reducible refine' StayAt.ext ?h1 ?h2); (case h1 => assumption); (case h2 => walk_at "st"))
  | ((with_reducible refine' StayAt.ext ?h1 ?h2); (case h1 => exact ext_new (by assumption)); (case h2 => walk_at "st")))
local macro_rules | `(tactic| walk_at "w2") => `(tactic| first
  | ((with_reducible refine' w_first ?h1 ?h2 ?h3 ?h4 ?_); (case h3 => rfl); (case h4 => walk_at "st"); (case h1 => assumption); (case h2 => assumption))
  | ((with_reducible refine' w_after ?h1 ?h2 ?h3 ?h4 ?_); (case h3 => rfl); (case h4 => walk_at "st"); (case h1 => assumption); (case h2 => assumption))
  | ((with_reducible refine' w_nights ?h1 ?h2 ?h3 ?h4 ?_); (case h3 => rfl); (case h4 => walk_at "st"); (case h1 => assumption); (case h2 => assumption)))
local macro_rules | `(tactic| walk_at "w") => `(tactic| repeat (first | walk_at "w1" | walk_at "w2" | dsimp only))
local macro_rules | `(tactic| walk_at "wi") => `(tactic| repeat (first | walk_at "w1" | walk_at "w2" | with_reducible refine' s_if ?_ | dsimp only))

def bPartsL (CS CD : Addr) : List V → Hp → AK → AXK → Prop := fun vs kn Q _ => ∃ s f e a t, vs = [.ref s, .ref a] ∧ StayAt CS kn s f e ∧ DayAt CD kn a t ∧ ∀ k', Ext kn k' → Q (.bl true) k'
theorem mo_partsL {CS CD : Addr} : MonoX (bPartsL CS CD) := by
  rintro vs kn Q R E F h1 h2 ⟨s, f, e, a, t, x1, x2, x3, h⟩
  exact ⟨s, f, e, a, t, x1, x2, x3, fun k z => h1 _ _ (h k z)⟩
theorem none_all {t : List Bool} {f : Int} (lt : Least t) (h : ∀ l : Nat, l < t.length → inD t (f + l) = false) (x : Int) : inD t x = false := by
  have tp := lt.pos
  have h0 := Int.emod_nonneg (x - f) (show ((t.length : Nat) : Int) ≠ 0 by omega)
  have h1 := Int.emod_lt_of_pos (x - f) (show (0 : Int) < ((t.length : Nat) : Int) by omega)
  rw [← h ((x - f) % (t.length : Int)).toNat (by omega)]
  refine inD_eq ?_
  rw [Int.toNat_of_nonneg h0, Int.add_emod_emod]
  congr 1
  omega
theorem none_F {t : List Bool} (lt : Least t) (h : ∀ x, inD t x = false) : t = [false] := by
  have l1 : Least [false] := by
    have := form_least (p := 1) (ys := []) (by decide) (by decide)
    rw [form_F] at this
    exact this
  refine inD_uniq lt l1 fun x => ?_
  rw [h x]
  unfold inD
  rw [show (([false] : List Bool).length : Int) = 1 from rfl, Int.emod_one]
  rfl
theorem next_far {t : List Bool} {f e : Int} {j : Nat} (h : ∀ l : Nat, l < j → inD t (f + l) = false) (hj : ¬ f + (j : Int) < e) : nts (inD t) f e = [] :=
  nts_nil fun x h1 h2 => by
    have := h (x - f).toNat (by omega)
    rw [Int.toNat_of_nonneg (by omega)] at this
    rw [← this]
    congr 1
    omega
theorem r_eqE {K : PySem.W.Frag} {c : Cw} {kn : Hp} {n : Nat} {Q : V → Hp → Nat → Prop} {a b : Addr} (h : kn a = some (.lst [])) (h2 : kn b = some (.lst [])) (q : Q (.bl true) kn n) : W c (rEqD K (.ref a) (.ref b)) kn n Q := by
  refine r_eq_d (.lst (sql h) .nil) (.lst (sql h2) .nil) (by decide +kernel) (by decide +kernel) ?_
  rw [show PyData.eqv (.list []) (.list []) = true by decide +kernel]
  exact q
section
variable {c : Cw} {kn : Hp} {n : Nat} {σ : L2.St} {Q : V → Hp → Nat → Prop} {K : PySem.W.Frag} {mg : Str → Option Value}
theorem r_meetsS (T : Tx K mg) {E : XK} {i j : Nat} {s s' : Addr} {f e f' e' : Int} (h1 : σ[i]? = some (some (.ref s))) (h2 : σ[j]? = some (some (.ref s'))) (st : StayAt T.c_Stay kn s f e) (st' : StayAt T.c_Stay kn s' f' e') (q : Q (.bl (decide (f < e') && decide (f' < e))) kn n) :
    W c (tMeth T.c_Stay (Str.ofString "meets") (liftX (S.bMeets T.c_Stay)) [] E (tVar i) (tCons (tVar j) tNil) σ) kn n Q := by
  obtain ⟨dx, p, a1, b1⟩ := st.at_
  exact w_meth (EA := fun _ _ _ _ => False) S.mo_meets err_no (w_var h1 ⟨s, dx, _, rfl, a1, rfl, w_cons (w_var h2 (w_nil ⟨s, f, e, s', f', e', rfl, st, st', q⟩))⟩)
theorem w_foll (T : Tx K mg) {E : XK} {i : Nat} {a : Addr} {t : List Bool} {tA : TA} (h1 : σ[i]? = some (some (.ref a))) (da : DayAt T.c_Days kn a t)
    (h : W c (tA σ) kn n fun vs kn1 n1 => ∃ x, vs = [.int x] ∧ kn1 = kn ∧ ∀ v, D.IsNext (inD t) x t.length v → Q v kn1 n1) :
    W c (tMeth T.c_Days (Str.ofString "following") (liftX (D.bFoll T.c_Days)) [] E (tVar i) tA σ) kn n Q := by
  obtain ⟨dx, p, a1, b1⟩ := da.at_
  refine w_meth (EA := fun _ _ _ _ => False) D.mo_foll err_no (w_var h1 ⟨a, dx, _, rfl, a1, rfl, h.mono fun vs kn1 n1 hv => ?_⟩)
  obtain ⟨x, ex, ek, h3⟩ := hv
  subst ex ek
  exact ⟨a, x, t, rfl, da, h3⟩
theorem w_noneD (T : Tx K mg) {E : XK} (q : ∀ x k, Ext kn k → DayAt T.c_Days k x [false] → Q (.ref x) k n) : W c (tSMeth T.c_Days (liftX (D.bNew T.c_Days [false])) E (tC (.ref T.c_Days)) tNil σ) kn n Q :=
  w_smeth (EA := fun _ _ _ _ => False) D.mo_new err_no (w_c ⟨rfl, w_nil ⟨rfl, fun x k e _ d => q x k e d⟩⟩)
end
section
variable {P : Program} {w : World} {K : PySem.W.Frag} {mg : Str → Option Value} {base : Heap}
theorem ok__law_parts_right (T : Tx K mg) : FnOk P w K mg base CX0 12 T.f__law_parts_right T.d__law_parts_right ["pen", "stay_so", "one"] (liftP [] 3 (bPartsL T.c_Stay T.c_Days)) := by
  refine T.F__law_parts_right.ok sc__law_parts_right (fun vs H Q E h => ?_) (fun cdv A outer s H vs Q E hr h => ?_)
  · obtain ⟨p, a, ns, n, kn, ws, rfl, _, _, s, f, e, x, t, rfl, _⟩ := h
    rfl
  · obtain ⟨p, a, ns, n, kn, ws, rfl, g, hn, s, f, e, x, t, rfl, st, da, h⟩ := h
    refine ⟨_, (pss_cons (ps_if (pt_cmpR op_gt (pe_callB (c_lenO T.sm_Stay___len__ (ok_Stay___len__ T) (hr.mono (by decide)) T.bd_Stay___len__ pass0) (by rfl) T.b_len (by decide +kernel) (pa_cons (pv 1) pa_nil)) pe_int (nomark _))
       (pss_cons (ps_asg (pe_op (op_own T.op_Stay_floordiv (ok_Stay___floordiv__ T) (hr.mono (by decide)) T.bd_Stay___floordiv__ passL) (pv 1) (pe_op op_add (pe_op op_add (pe_fld (pv 1) rfl) pe_int) (pe_call (ok__law_draw T) (hr.mono (by decide)) (by rfl) T.g__law_draw T.F__law_draw.kp T.bd__law_draw .nil pass0 (pa_cons (pv 0) (pa_cons (pe_op op_sub (pe_callB (c_lenO T.sm_Stay___len__ (ok_Stay___len__ T) (hr.mono (by decide)) T.bd_Stay___len__ pass0) (by rfl) T.b_len (by decide +kernel) (pa_cons (pv 1) pa_nil)) pe_int) pa_nil))))) (pg_tup (by rfl) (pgs_cons (pg_name (i := 3) sc__law_parts_right.nd rfl (by first | exact Or.inl rfl | exact Or.inr rfl)) (pgs_cons (pg_name (i := 4) sc__law_parts_right.nd rfl (by first | exact Or.inl rfl | exact Or.inr rfl)) pgs_nil))))
       (pss_cons (ps_if (PW.pt (pw_or (pt_cmpR op_ne (pe_op op_add (pe_call (ok__law_many T) (hr.mono (by decide)) (by rfl) T.g__law_many T.F__law_many.kp T.bd__law_many .nil pass0 (pa_cons (pv 3) (pa_cons (pv 2) pa_nil))) (pe_call (ok__law_many T) (hr.mono (by decide)) (by rfl) T.g__law_many T.F__law_many.kp T.bd__law_many .nil pass0 (pa_cons (pv 4) (pa_cons (pv 2) pa_nil)))) (pe_call (ok__law_many T) (hr.mono (by decide)) (by rfl) T.g__law_many T.F__law_many.kp T.bd__law_many .nil pass0 (pa_cons (pv 1) (pa_cons (pv 2) pa_nil))) (nomark _)) (pw_or1 (pt_val (pe_meth (pv 3) T.cl_Stay T.me_Stay_meets (ok_Stay_meets T) (hr.mono (by decide)) T.bd_Stay_meets .nil pass0 (pa_cons (pv 4) pa_nil))))))
       (pss_one (ps_ret pe_bl))
       pss_nil)
       (pss_one (ps_if (PW.pt (pw_or (pt_cmpR op_ne (pe_op op_add (pe_callB (c_lenO T.sm_Stay___len__ (ok_Stay___len__ T) (hr.mono (by decide)) T.bd_Stay___len__ pass0) (by rfl) T.b_len (by decide +kernel) (pa_cons (pv 3) pa_nil)) (pe_callB (c_lenO T.sm_Stay___len__ (ok_Stay___len__ T) (hr.mono (by decide)) T.bd_Stay___len__ pass0) (by rfl) T.b_len (by decide +kernel) (pa_cons (pv 4) pa_nil))) (pe_callB (c_lenO T.sm_Stay___len__ (ok_Stay___len__ T) (hr.mono (by decide)) T.bd_Stay___len__ pass0) (by rfl) T.b_len (by decide +kernel) (pa_cons (pv 1) pa_nil)) (nomark _)) (pw_or1 (pt_not (pt_val (pe_meth (pv 3) T.cl_Stay T.me_Stay_meets (ok_Stay_meets T) (hr.mono (by decide)) T.bd_Stay_meets .nil pass0 (pa_cons (pv 1) pa_nil)))))))
       (pss_one (ps_ret pe_bl))
       pss_nil))))
       pss_nil)
       (pss_cons (ps_par (i := 5) (j := 6) (by rfl) sc__law_parts_right.nd rfl rfl (by decide) rfl rfl (pa_cons (pe_meth (pv 2) T.cl_Days T.me_Days_following (ok_Days_following T) (hr.mono (by decide)) T.bd_Days_following .nil pass0 (pa_cons (pe_fld (pv 1) rfl) pa_nil)) (pa_cons (pe_lc (own := [("n", 7)]) (g := gName 7) (by rfl) sc__law_parts_right.nd (pi_ownT T.sm_Stay___iter__ (oN_Stay___iter__ T) T.bd_Stay___iter__ (hr.mono (by decide)) (pv 1)) (blkOk_by (own := [("n", 7)]) (N := ["pen", "stay_so", "one", "ahead", "behind", "later", "some", "n"]) (sc := defScope s__law_parts_right) (by decide +kernel)) (fun _ _ _ _ _ => pg_name (i := 7) sc__law_parts_right.nd rfl (Or.inl rfl)) (fun _ _ _ _ _ => (pts_one (pt_cmpR (op_inO T.sm_Days___contains__ (ok_Days___contains__ T) (hr.mono (by decide)) T.bd_Days___contains__ pass0) (pv 7) (pv 2) (by rfl)))) (fun _ _ _ _ _ => (pv 7))) pa_nil)) (by rfl))
       (pss_cons (ps_if (pt_cmpR c_isN (pv 5) pe_non (nomark _))
       (pss_one (ps_ret (pe_and (pe_cmpR (show OpR _ _ (rEqD K) from op_eqD hr.units) (pv 6) (pe_lst pa_nil) (nomark _)) (pe_one (pe_cmpR (op_eqO T.eq_Days (ok_Days___eq__ T) (hr.mono (by decide)) T.bd_Days___eq__ pass0) (pv 2) (pe_smeth0 (pe_glob (v := .ref T.c_Days) (by rfl) T.g_Days rfl) T.cr_Days T.sme_Days_none (oR_Days_none T) (hr.mono (by decide)) pass0) (nomark _))))))
       pss_nil)
       (pss_cons (ps_if (pt_cmpR op_lt (pv 5) (pe_fld (pv 1) rfl) (nomark _))
       (pss_one (ps_ret (pe_cmpR op_eq (pe_ix (show IxR _ (rIxL K) from ix_list) (pv 6) pe_int (fun _ _ => rfl)) (pv 5) (nomark _))))
       pss_nil)
       (pss_one (ps_ret (pe_and (pe_cmpR (show OpR _ _ (rEqD K) from op_eqD hr.units) (pv 6) (pe_lst pa_nil) (nomark _)) (pe_one (pe_cmpR (op_inO T.sm_Days___contains__ (ok_Days___contains__ T) (hr.mono (by decide)) T.bd_Days___contains__ pass0) (pv 5) (pv 2) (by rfl)))))))))), ?_⟩
    refine body_of g ?_
    have cS := T.cl_Stay; have nF := T.na_Stay_first; have nA := T.na_Stay_after; have nN := T.na_Stay__nights
    have l0 := st.lt
    have l1 := st.most
    have lD := da.least
    refine s_seq ?_
    refine s_join (fun σ' kn' n' => n' ≤ n + 1 ∧ Ext kn kn' ∧ ∃ y3 y4, σ' = [some (.ref p), some (.ref s), some (.ref x), y3, y4, none, none, none]) ?_ ?_
    · refine s_if ?_
      walk_at "w"
      refine r_lenS st ?_
      walk_at "w"
      refine ⟨fun hb => ?_, fun _ => ?_⟩
      · have hb := of_decide_eq_true hb
        walk_at "w"
        refine w_draw ?_
        walk_at "w"
        refine r_lenS st ?_
        walk_at "w"
        refine ⟨by omega, by omega, by omega, fun k k0 k1 => ?_⟩
        walk_at "w"
        obtain ⟨dx, q, z1, z2⟩ := st.at_
        refine r_own (EA := fun _ _ _ _ => False) S.mo_part err_no z1 (.base (.int _)) (ot_int_div T.si_Stay) ⟨s, f, e, _, rfl, st, .inl ⟨f + 1 + k, rfl, by omega, by omega, fun q x1 x2 k1 e1 _ hq s1 s2 => ?_⟩⟩
        refine g_tup hq rfl ?_
        walk_at "wi"
        refine w_call (EA := fun _ _ _ _ => False) mo_many err_no ?_
        walk_at "w"
        refine ⟨x1, _, _, x, t, rfl, s1, DayAt.ext e1 da, fun k2 e2 => ?_⟩
        walk_at "w"
        refine w_call (EA := fun _ _ _ _ => False) mo_many err_no ?_
        walk_at "w"
        refine ⟨x2, _, _, x, t, rfl, StayAt.ext e2 s2, DayAt.ext (ext_tr e1 e2) da, fun k3 e3 => ?_⟩
        have e3 := ext_tr e2 e3
        walk_at "w"
        refine w_call (EA := fun _ _ _ _ => False) mo_many err_no ?_
        walk_at "w"
        refine ⟨s, f, e, x, t, rfl, StayAt.ext (ext_tr e1 e3) st, DayAt.ext (ext_tr e1 e3) da, fun k4 e4 => ?_⟩
        have e4 := ext_tr e3 e4
        walk_at "w"
        rw [int_ne (cnt_cut (inD t) (by omega) (by omega))]
        walk_at "wi"
        have m1 := StayAt.ext e4 s1
        have m2 := StayAt.ext e4 s2
        have m3 := StayAt.ext (ext_tr e1 e4) st
        refine r_meetsS T rfl rfl m1 m2 ?_
        walk_at "w"
        rw [decide_eq_false (show ¬ f + 1 + k < f + 1 + k by omega), Bool.and_false]
        walk_at "wi"
        refine r_lenS m1 ?_
        walk_at "w"
        refine r_lenS m2 ?_
        walk_at "w"
        refine r_lenS m3 ?_
        walk_at "w"
        rw [int_ne (show f + 1 + k - f + (e - (f + 1 + k)) = e - f by omega)]
        walk_at "wi"
        refine r_meetsS T rfl rfl m1 m3 ?_
        walk_at "w"
        rw [decide_eq_true (show f < e by omega), decide_eq_true (show f < f + 1 + k by omega), Bool.and_true]
        walk_at "wi"
        exact ⟨by omega, ext_tr e1 e4, _, _, rfl⟩
      · walk_at "w"
        exact ⟨by omega, ext_rf, _, _, rfl⟩
    · rintro σ' kn1 n1 ⟨hn1, e1, y3, y4, rfl⟩
      have st := StayAt.ext e1 st
      have da := DayAt.ext e1 da
      have h : ∀ k', Ext kn1 k' → _ := fun k' z => h k' (ext_tr e1 z)
      clear e1
      refine s_seq (s_par ?_)
      walk_at "w"
      refine w_foll T rfl da ?_
      walk_at "w"
      refine ⟨rfl, fun v hv => ?_⟩
      walk_at "w"
      refine w_lcNights (p := inD t) st (fun R hR => w_var rfl hR) (fun _ => rfl) (fun _ => rfl) (fun i k R ek hR => ?_) fun D hD => ?_
      · walk_at "w"
        refine r_hasD (DayAt.ext ek da) ?_
        exact ⟨_, rfl, hR⟩
      walk_at "w"
      refine ⟨_, _, rfl, ?_⟩
      have e2 : Ext kn1 (upd kn1 D (.lst ((nts (inD t) f e).map V.int))) := ext_new hD
      have D2 : (upd kn1 D (.lst ((nts (inD t) f e).map V.int))) D = some (.lst ((nts (inD t) f e).map V.int)) := upd_same
      generalize upd kn1 D (.lst ((nts (inD t) f e).map V.int)) = kn2 at e2 D2 ⊢
      have st := StayAt.ext e2 st
      have da := DayAt.ext e2 da
      have h : ∀ k', Ext kn2 k' → _ := fun k' z => h k' (ext_tr e2 z)
      clear e2 hD
      rcases hv with ⟨j, hj, no, yes, rfl⟩ | ⟨no, rfl⟩
      · walk_at "wi"
        refine r_isN ?_
        rw [decide_eq_false (show ¬ V.int (f + (j : Int)) = V.non from fun z => by cases z)]
        walk_at "wi"
        refine ⟨fun hb => ?_, fun hb => ?_⟩
        · have hb := of_decide_eq_true hb
          obtain ⟨r, hr⟩ := nts_first (e := e) no yes hb
          rw [hr] at D2
          walk_at "wi"
          refine r_ixL (v := .int (f + (j : Int))) D2 (atI_nat (j := 0) rfl) ?_
          walk_at "wi"
          try rw [int_same rfl]
          exact fin_at (by omega) (h _ ext_rf)
        · have hb := of_decide_eq_false hb
          rw [next_far no hb] at D2
          walk_at "wi"
          refine ⟨show 0 ≤ 1000 by decide, fun b hb => ?_⟩
          refine r_eqE (know hb D2) upd_same ?_
          walk_at "wi"
          refine r_hasD (DayAt.ext (ext_new hb) da) ?_
          rw [if_neg Bool.false_ne_true, yes]
          exact fin_at (by omega) (h _ (ext_new hb))
      · have al := none_all lD no
        rw [nts_nil fun y _ _ => al y] at D2
        walk_at "wi"
        refine ⟨show 0 ≤ 1000 by decide, fun b hb => ?_⟩
        refine r_eqE (know hb D2) upd_same ?_
        walk_at "wi"
        refine w_noneD T fun z k3 e3 d3 => ?_
        walk_at "w"
        refine r_eqDD T (DayAt.ext (ext_tr (ext_new hb) e3) da) d3 ?_
        rw [if_neg Bool.false_ne_true, decide_eq_true (none_F lD al)]
        exact fin_at (by omega) (h _ (ext_tr (ext_new hb) e3))
end

end NN

namespace NN
open PySem PySem.Spec PyProof.Rows L2 LamX AW ClX
open Tx1 Ln
namespace L
def SetAt (C : Addr) (k : Hp) (x : Addr) (P : Nat → Bool) : Prop := ∃ nr tn, LenAt C k x nr tn ∧ nr.length ≤ 20 ∧ tn.length ∣ 12 ∧ ∀ n : Nat, inL nr tn (n : Int) = P n
theorem SetAt.ext {C : Addr} {k k' : Hp} {x : Addr} {P : Nat → Bool} (e : Ext k k') (h : SetAt C k x P) : SetAt C k' x P := by
  obtain ⟨nr, tn, l, a, b, d⟩ := h
  exact ⟨nr, tn, LenAt.ext e l, a, b, d⟩
open Classical in
noncomputable def eqP (P R : Nat → Bool) : Bool := decide (∀ n, P n = R n)
theorem eqP_iff {P R : Nat → Bool} : eqP P R = true ↔ ∀ n, P n = R n := by
  unfold eqP
  exact @decide_eq_true_iff _ (Classical.propDecidable _)
theorem eqP_form {nr tn nr' tn' : List Bool} {P R : Nat → Bool} (F : Form nr tn) (G : Form nr' tn') (h : ∀ n : Nat, inL nr tn (n : Int) = P n) (h' : ∀ n : Nat, inL nr' tn' (n : Int) = R n) : decide (nr = nr' ∧ tn = tn') = eqP P R := by
  rw [Bool.eq_iff_iff, decide_eq_true_eq, eqP_iff]
  refine ⟨fun ⟨e1, e2⟩ n => by rw [← h, ← h', e1, e2], fun z => form_uniq F G fun n => by rw [h, h', z]⟩
theorem cnt_set {C : Addr} {k : Hp} {x : Addr} {P : Nat → Bool} (h : SetAt C k x P) : ∃ nr tn, LenAt C k x nr tn ∧ (∀ n : Nat, inL nr tn (n : Int) = P n) ∧ ∀ n, cntL nr tn n = cnt P n := by
  obtain ⟨nr, tn, l, _, _, e⟩ := h
  exact ⟨nr, tn, l, e, fun n => cnt_congr fun i _ => e i⟩
theorem SetAt.cg {C : Addr} {k : Hp} {x : Addr} {P R : Nat → Bool} (h : SetAt C k x P) (e : ∀ n, P n = R n) : SetAt C k x R := by
  obtain ⟨nr, tn, a, b, d, i⟩ := h
  exact ⟨nr, tn, a, b, d, fun n => (i n).trans (e n)⟩
theorem inL_of {xs : List Nat} (hx : ∀ x ∈ xs, x < 400) (n : Nat) : inL (formN 400 1 xs []) (formT 1 []) (n : Int) = decide (n ∈ xs) := by
  rw [inL_args (by decide)]
  by_cases z : n < 400
  · rw [if_pos z]
  · rw [if_neg z, decide_eq_false (fun h => z (hx n h))]
    exact decide_eq_false (by simp)
theorem small_fin {xs : List Nat} (hx : ∀ x ∈ xs, x < 390) : Small 400 1 xs [] := by
  unfold Small
  have h1 : maskOf 1 [] = [false] := rfl
  have h2 : leastP [false] = 1 := by decide
  rw [h1, h2]
  obtain ⟨b1, b2, b3⟩ := begin_spec (maskOf 400 xs) [false] 1
  rcases Nat.lt_or_ge 390 (beginOf (maskOf 400 xs) [false] 1) with z | z
  · exfalso
    rw [mask_len] at b1
    refine b3 (by omega) ?_
    rw [ix_mask (by omega), decide_eq_false (fun h => by have := hx _ h; omega), Nat.mod_one]
    rfl
  · omega
theorem within_fin {r u : List Bool} {xs : List Nat} {t : Nat} (F : Form r u) (h : ∀ m : Nat, inL r u (m : Int) = decide (m ∈ xs)) (hx : ∀ x ∈ xs, x < t) : r.length ≤ t ∧ u.length = 1 := by
  have := form_within F (b := t) (L := 1) (by decide) fun n hn => by
    rw [h, h, decide_eq_false (fun z => by have := hx _ z; omega), decide_eq_false (fun z => by have := hx _ z; omega)]
  exact ⟨this.1, Nat.dvd_one.1 this.2⟩
theorem set_args {C : Addr} {k : Hp} {x : Addr} {st p : Nat} {xs ys : List Nat} (l : LenAt C k x (formN st p xs ys) (formT p ys)) (hp : 1 ≤ p) (hs : st ≤ 20) (hd : p ∣ 12) : SetAt C k x (fun n => if n < st then decide (n ∈ xs) else decide (n % p ∈ ys)) := by
  obtain ⟨w1, w2⟩ := form_within l.form (b := st) (L := p) hp fun n hn => by rw [inL_args hp, inL_args hp, if_neg (by omega), if_neg (by omega), Nat.add_mod_right]
  exact ⟨_, _, l, by omega, Nat.dvd_trans w2 hd, fun n => inL_args hp n⟩
section
variable {c : Cw} {kn : Hp} {n : Nat} {σ : L2.St} {Q : V → Hp → Nat → Prop} {K : PySem.W.Frag} {mg : Str → Option Value}
theorem r_join (T : Tx K mg) {op : Operator} {f : Bool → Bool → Bool} {E : XK} {a b : Addr} {nr tn nr' tn' : List Bool} (da : LenAt T.c_Lengths kn a nr tn) (db : LenAt T.c_Lengths kn b nr' tn') (l4 : maxN nr.length nr'.length + Nat.lcm tn.length tn'.length ≤ 400)
    (k : ∀ r u x k', Form r u → (∀ n : Nat, inL r u (n : Int) = f (inL nr tn (n : Int)) (inL nr' tn' (n : Int))) → Ext kn k' → kn x = none → LenAt T.c_Lengths k' x r u → Q (.ref x) k' n) : W c (rOwn K op T.c_Lengths (liftX (bJoin f T.c_Lengths)) E (.ref a) (.ref b)) kn n Q := by
  obtain ⟨dx, q1, q2, q3, z1, _⟩ := da.at_
  obtain ⟨dx', q1', q2', q3', y1, _⟩ := db.at_
  exact r_own (EA := fun _ _ _ _ => False) mo_join err_no z1 (T.own_Lengths.ty y1) .own ⟨a, b, nr, tn, nr', tn', rfl, da, db, l4, fun r u l i x k' e n' d => k r u x k' l i e n' d⟩
theorem r_sop (T : Tx K mg) {op : Operator} {f : Bool → Bool → Bool} {E : XK} {a b : Addr} {P R : Nat → Bool} (ha : SetAt T.c_Lengths kn a P) (hb : SetAt T.c_Lengths kn b R)
    (q : ∀ x k', Ext kn k' → SetAt T.c_Lengths k' x (fun i => f (P i) (R i)) → Q (.ref x) k' n) : W c (rOwn K op T.c_Lengths (liftX (bJoin f T.c_Lengths)) E (.ref a) (.ref b)) kn n Q := by
  obtain ⟨nr, tn, la, a1, a2, a3⟩ := ha
  obtain ⟨nr', tn', lb, b1, b2, b3⟩ := hb
  have l12 := Nat.lcm_dvd a2 b2
  have lle := Nat.le_of_dvd (show 0 < 12 by decide) l12
  have lp : 0 < Nat.lcm tn.length tn'.length := Nat.lcm_pos la.form.pos lb.form.pos
  have mx : maxN nr.length nr'.length ≤ 20 := by unfold maxN; split <;> omega
  refine r_join T la lb (by omega) fun r u x k' F i e nx l => q x k' e ?_
  obtain ⟨w1, w2⟩ := form_within F (b := maxN nr.length nr'.length) lp fun m hm => by rw [i, i]; exact join_per hm
  exact ⟨r, u, l, by omega, Nat.dvd_trans w2 l12, fun m => by rw [i, a3, b3]⟩
theorem r_seq (T : Tx K mg) {neg : Bool} {a b : Addr} {P R : Nat → Bool} (ha : SetAt T.c_Lengths kn a P) (hb : SetAt T.c_Lengths kn b R) (q : Q (.bl (if neg then !eqP P R else eqP P R)) kn n) : W c (rEqO K T.c_Lengths (liftX (bEq T.c_Lengths)) neg (.ref a) (.ref b)) kn n Q := by
  obtain ⟨nr, tn, la, a1, a2, a3⟩ := ha
  obtain ⟨nr', tn', lb, b1, b2, b3⟩ := hb
  refine r_eqLL T la lb ?_
  rw [eqP_form la.form lb.form a3 b3]
  exact q
theorem w_sof (T : Tx K mg) {E : XK} {tA : TA}
    (h : W c (tA σ) kn n fun vs kn1 n1 => ∃ xs : List Nat, vs = natV xs ∧ (∀ x ∈ xs, x < 20) ∧ xs.length ≤ 100 ∧ ∀ s k, Ext kn1 k → SetAt T.c_Lengths k s (fun m => decide (m ∈ xs)) → Q (.ref s) k n1) : W c (tSMeth T.c_Lengths (spStar 0 (bOf T.c_Lengths)) E (tC (.ref T.c_Lengths)) tA σ) kn n Q := by
  refine w_smethS (EA := fun _ _ _ _ => False) mo_of err_no (w_c ⟨rfl, h.mono fun vs kn1 n1 hv => ?_⟩)
  obtain ⟨xs, rfl, hx, hl, q⟩ := hv
  refine ⟨[], natV xs, rfl, rfl, by rw [List.length_map]; omega, fun p5 hp5 => ?_⟩
  refine ⟨p5, xs, rfl, upd_same, by omega, fun x h => by have := hx x h; omega, small_fin fun x h => by have := hx x h; omega, fun s k e _ d => q s k (ext_tr (ext_new hp5) e) ?_⟩
  have io := inL_of (xs := xs) fun x h => by have := hx x h; omega
  obtain ⟨w1, w2⟩ := within_fin d.form io hx
  exact ⟨_, _, d, w1, by rw [w2]; decide, io⟩
theorem w_ssince (T : Tx K mg) {E : XK} {tA : TA}
    (h : W c (tA σ) kn n fun vs kn1 n1 => ∃ b : Nat, vs = [.int b] ∧ b ≤ 20 ∧ ∀ x k, Ext kn1 k → SetAt T.c_Lengths k x (fun n => if n < b then decide (n ∈ ([] : List Nat)) else decide (n % 1 ∈ [0])) → Q (.ref x) k n1) : W c (tSMeth T.c_Lengths (liftX (bSince T.c_Lengths)) E (tC (.ref T.c_Lengths)) tA σ) kn n Q := by
  refine w_smeth (EA := fun _ _ _ _ => False) mo_since err_no (w_c ⟨rfl, h.mono fun vs k n1 hv => ?_⟩)
  obtain ⟨b, rfl, h2, q⟩ := hv
  exact ⟨b, rfl, by omega, fun x k' e _ l => q x k' e (set_args l (Nat.le_refl _) h2 (Nat.one_dvd _))⟩
theorem w_sbel (T : Tx K mg) {E : XK} {ta : TE} {tA : TA}
    (h : W c (ta σ) kn n fun x kn1 n1 => ∃ a P, x = .ref a ∧ SetAt T.c_Lengths kn1 a P ∧ W c (tA σ) kn1 n1 fun vs kn2 n2 => ∃ m : Nat, vs = [.int m] ∧ SetAt T.c_Lengths kn2 a P ∧ ∀ k', Ext kn2 k' → Q (.int (cnt P m : Nat)) k' n2) : W c (tMeth T.c_Lengths (Str.ofString "below") (liftX (bBel T.c_Lengths)) [] E ta tA σ) kn n Q := by
  refine w_meth (EA := fun _ _ _ _ => False) mo_bel err_no (h.mono fun x kn1 n1 hx => ?_)
  obtain ⟨a, P, rfl, sa, h2⟩ := hx
  obtain ⟨nr, tn, la, lb, lc⟩ := cnt_set sa
  obtain ⟨dx, q1, q2, q3, z1, _⟩ := la.at_
  refine ⟨a, dx, _, rfl, z1, rfl, h2.mono fun vs kn2 n2 hv => ?_⟩
  obtain ⟨m, rfl, sa2, h3⟩ := hv
  obtain ⟨nr2, tn2, la2, lb2, lc2⟩ := cnt_set sa2
  refine ⟨a, nr2, tn2, m, rfl, la2, fun k' e => ?_⟩
  rw [lc2]
  exact h3 k' e
theorem w_satL (T : Tx K mg) {E : XK} {ta : TE} {tA : TA}
    (h : W c (ta σ) kn n fun x kn1 n1 => ∃ a P, x = .ref a ∧ SetAt T.c_Lengths kn1 a P ∧ W c (tA σ) kn1 n1 fun vs kn2 n2 => ∃ m : Nat, vs = [.int m] ∧ SetAt T.c_Lengths kn2 a P ∧
      (∀ k : Nat, m ≤ k → P k = true → (∀ l, m ≤ l → l < k → P l = false) → Q (.int k) kn2 n2) ∧ ((∀ k, m ≤ k → P k = false) → Q .non kn2 n2)) : W c (tMeth T.c_Lengths (Str.ofString "at_least") (liftX (bAtL T.c_Lengths)) [] E ta tA σ) kn n Q := by
  refine w_meth (EA := fun _ _ _ _ => False) mo_atL err_no (h.mono fun x kn1 n1 hx => ?_)
  obtain ⟨a, P, rfl, sa, h2⟩ := hx
  obtain ⟨nr, tn, la, lb, lc⟩ := cnt_set sa
  obtain ⟨dx, q1, q2, q3, z1, _⟩ := la.at_
  refine ⟨a, dx, _, rfl, z1, rfl, h2.mono fun vs kn2 n2 hv => ?_⟩
  obtain ⟨m, rfl, sa2, h3, h4⟩ := hv
  obtain ⟨nr2, tn2, la2, lb2, lc2⟩ := cnt_set sa2
  refine ⟨a, nr2, tn2, m, rfl, la2, fun v hv => ?_⟩
  rcases hv with ⟨k, k1, k2, k3, rfl⟩ | ⟨k1, rfl⟩
  · exact h3 k k1 (by rw [← lb2]; exact k2) fun l l1 l2 => by rw [← lb2]; exact k3 l l1 l2
  · exact h4 fun k z => by rw [← lb2]; exact k1 k z
end
end L

end NN

namespace NN
open PySem PySem.Spec PyProof.Rows L2 LamX AW ClX
open Tx1 Ln D S L
-- a stay that is known
local macro_rules | `(tactic| walk_at "st") => `(tactic| first
  | assumption
  | ((with_reducible refine' StayAt.ext ?h1 ?h2); (case h1 => assumption); (case h2 => walk_at "st"))
  | ((with_reducible refine' StayAt.ext ?h1 ?h2); (case h1 => exact ext_new (by assumption)); (case h2 => walk_at "st")))
local macro_rules | `(tactic| walk_at "w2") => `(tactic| first
  | ((with_reducible refine' w_first ?h1 ?h2 ?h3 ?h4 ?_); (case h3 => rfl); (case h4 => walk_at "st"); (case h1 => assumption); (case h2 => assumption))
  | ((with_reducible refine' w_after ?h1 ?h2 ?h3 ?h4 ?_); (case h3 => rfl); (case h4 => walk_at "st"); (case h1 => assumption); (case h2 => assumption))
  | ((with_reducible refine' w_nights ?h1 ?h2 ?h3 ?h4 ?_); (case h3 => rfl); (case h4 => walk_at "st"); (case h1 => assumption); (case h2 => assumption)))
local macro_rules | `(tactic| walk_at "w") => `(tactic| repeat (first | walk_at "w1" | walk_at "w2" | dsimp only))
local macro_rules | `(tactic| walk_at "wi") => `(tactic| repeat (first | walk_at "w1" | walk_at "w2" | with_reducible refine' s_if ?_ | dsimp only))

def inR (a b : Nat) (m : Nat) : Bool := decide (a ≤ m) && decide (m < b)
theorem cnt_inR {a b : Nat} : ∀ n, n ≤ b → L.cnt (inR a b) n = n - a
  | 0, _ => by simp [L.cnt]
  | n + 1, h => by
    have ih := cnt_inR (a := a) (b := b) n (by omega)
    show L.cnt (inR a b) n + (inR a b n).toNat = n + 1 - a
    rw [ih]
    unfold inR
    rw [decide_eq_true (show n < b by omega), Bool.and_true]
    by_cases z : a ≤ n
    · rw [decide_eq_true z]
      show n - a + 1 = _
      omega
    · rw [decide_eq_false z]
      show n - a + 0 = _
      omega
theorem inR_or {a i : Nat} (m : Nat) : or (inR a (a + i) m) (decide (m ∈ [a + i])) = inR a (a + (i + 1)) m := by
  unfold inR
  rw [Bool.eq_iff_iff]
  simp only [Bool.or_eq_true, Bool.and_eq_true, decide_eq_true_eq, List.mem_singleton]
  omega
theorem inR_sub {a b : Nat} (m : Nat) : inR a b m = D.andn (if m < a then decide (m ∈ ([] : List Nat)) else decide (m % 1 ∈ [0])) (if m < b then decide (m ∈ ([] : List Nat)) else decide (m % 1 ∈ [0])) := by
  have h1 : decide (m % 1 ∈ [0]) = true := decide_eq_true (by rw [Nat.mod_one]; exact .head _)
  have h0 : decide (m ∈ ([] : List Nat)) = false := decide_eq_false (by simp)
  rw [h1, h0]
  unfold inR D.andn
  by_cases z1 : m < a
  · rw [if_pos z1, decide_eq_false (show ¬ a ≤ m by omega)]
    rfl
  · rw [if_neg z1, decide_eq_true (show a ≤ m by omega)]
    by_cases z2 : m < b
    · rw [if_pos z2, decide_eq_true z2]
      rfl
    · rw [if_neg z2, decide_eq_false z2]
      rfl
def bListed (CS : Addr) : List V → Hp → AK → AXK → Prop := fun vs kn Q _ => ∃ s, ∃ f e : Nat, vs = [.ref s] ∧ StayAt CS kn s f e ∧ e ≤ 19 ∧ ∀ k', Ext kn k' → Q (.bl true) k'
theorem mo_listed {CS : Addr} : MonoX (bListed CS) := by
  rintro vs kn Q R E F h1 h2 ⟨s, f, e, x1, x2, x3, h⟩
  exact ⟨s, f, e, x1, x2, x3, fun k z => h1 _ _ (h k z)⟩
section
variable {c : Cw} {kn : Hp} {n : Nat} {σ : L2.St} {Q : V → Hp → Nat → Prop} {K : PySem.W.Frag} {mg : Str → Option Value}
theorem w_noneL (T : Tx K mg) {E : XK} (q : ∀ x k, Ext kn k → SetAt T.c_Lengths k x (fun _ => false) → Q (.ref x) k n) : W c (tSMeth T.c_Lengths (liftX (L.bNew T.c_Lengths [] [false])) E (tC (.ref T.c_Lengths)) tNil σ) kn n Q :=
  w_smeth (EA := fun _ _ _ _ => False) L.mo_new err_no (w_c ⟨rfl, w_nil ⟨rfl, fun x k e _ d => q x k e ⟨[], [false], d, by decide, by decide, fun m => by
    rw [inL_nat]
    show (if m < 0 then ix [] m else ix [false] (m % 1)) = false
    rw [if_neg (Nat.not_lt_zero _), Nat.mod_one]
    rfl⟩⟩⟩)
end
section
variable {P : Program} {w : World} {K : PySem.W.Frag} {mg : Str → Option Value} {base : Heap}
theorem ok__law_listed_right (T : Tx K mg) : FnOk P w K mg base CX0 12 T.f__law_listed_right T.d__law_listed_right ["stay_so"] (liftX (bListed T.c_Stay)) := by
  refine T.F__law_listed_right.ok sc__law_listed_right (fun vs H Q E h => ?_) (fun cdv A outer s H vs Q E hr h => ?_)
  · obtain ⟨kn, _, _, s, f, e, rfl, _⟩ := h
    rfl
  · obtain ⟨kn, ex, nt, s, f, e, rfl, st, l19, h⟩ := h
    refine ⟨_, (pss_cons (ps_set (i := 1) sc__law_listed_right.nd rfl (by first | exact Or.inl rfl | exact Or.inr rfl) (pe_smeth0 (pe_glob (v := .ref T.c_Lengths) (by rfl) T.g_Lengths rfl) T.cr_Lengths T.sme_Lengths_none (oR_Lengths_none T) (hr.mono (by decide)) pass0))
       (pss_cons (ps_for PassesOwn.never rfl (pi_ownT T.sm_Stay___iter__ (oN_Stay___iter__ T) T.bd_Stay___iter__ (hr.mono (by decide)) (pv 0)) (pg_name (i := 2) sc__law_listed_right.nd rfl (by first | exact Or.inl rfl | exact Or.inr rfl))
       (pss_one (ps_set (i := 1) sc__law_listed_right.nd rfl (by first | exact Or.inl rfl | exact Or.inr rfl) (pe_op (op_own T.op_Lengths_or (ok_Lengths___or__ T) (hr.mono (by decide)) T.bd_Lengths___or__ pass0) (pv 1) (pe_smeth (pe_glob (v := .ref T.c_Lengths) (by rfl) T.g_Lengths rfl) T.cr_Lengths T.sme_Lengths_of (oR_Lengths_of T) (hr.mono (by decide)) pass0 (pa_cons (pv 2) pa_nil))))))
       (pss_cons (ps_if (PW.pt (pw_or (pt_cmpR op_ne (pe_meth (pv 1) T.cl_Lengths T.me_Lengths_below (ok_Lengths_below T) (hr.mono (by decide)) T.bd_Lengths_below .nil pass0 (pa_cons (pe_fld (pv 0) rfl) pa_nil)) (pe_callB (c_lenO T.sm_Stay___len__ (ok_Stay___len__ T) (hr.mono (by decide)) T.bd_Stay___len__ pass0) (by rfl) T.b_len (by decide +kernel) (pa_cons (pv 0) pa_nil)) (nomark _)) (pw_or1 (pt_cmpR op_ne (pe_meth (pv 1) T.cl_Lengths T.me_Lengths_at_least (ok_Lengths_at_least T) (hr.mono (by decide)) T.bd_Lengths_at_least .nil pass0 (pa_cons (pe_fld (pv 0) rfl) pa_nil)) (pe_fld (pv 0) rfl) (nomark _)))))
       (pss_one (ps_ret pe_bl))
       pss_nil)
       (pss_one (ps_ret (pe_cmpR (op_eqO T.eq_Lengths (ok_Lengths___eq__ T) (hr.mono (by decide)) T.bd_Lengths___eq__ pass0) (pv 1) (pe_op (op_own T.op_Lengths_sub (ok_Lengths___sub__ T) (hr.mono (by decide)) T.bd_Lengths___sub__ pass0) (pe_smeth (pe_glob (v := .ref T.c_Lengths) (by rfl) T.g_Lengths rfl) T.cr_Lengths T.sme_Lengths_since (oR_Lengths_since T) (hr.mono (by decide)) pass0 (pa_cons (pe_fld (pv 0) rfl) pa_nil)) (pe_smeth (pe_glob (v := .ref T.c_Lengths) (by rfl) T.g_Lengths rfl) T.cr_Lengths T.sme_Lengths_since (oR_Lengths_since T) (hr.mono (by decide)) pass0 (pa_cons (pe_fld (pv 0) rfl) pa_nil))) (nomark _))))))), ?_⟩
    refine body_of (pure_start ex nt) ?_
    have cS := T.cl_Stay; have nF := T.na_Stay_first; have nA := T.na_Stay_after; have nN := T.na_Stay__nights
    have lt := st.lt
    walk_at "w"
    refine w_noneL T fun x0 k0 e0 s0 => ?_
    walk_at "w"
    have st := StayAt.ext e0 st
    obtain ⟨dx, q, z1, z2⟩ := st.at_
    refine s_forJ (i_own ?_)
    walk_at "w"
    refine ⟨s, dx, _, q, _, rfl, z1, rfl, z2, rgV f e, _, fun i σ' k m => m = 0 ∧ i ≤ e - f ∧ Ext k0 k ∧ ∃ x y, σ' = [some (.ref s), some (.ref x), y] ∧ SetAt T.c_Lengths k x (inR f (f + i)), gives_tup, ⟨rfl, Nat.zero_le _, ext_rf, x0, _, rfl, SetAt.cg s0 fun m => ?_⟩, fun i σ' k m hh => hh.2.2.1 _ _ z2, ?_, ?_⟩
    · unfold inR
      by_cases z : f ≤ m
      · rw [decide_eq_false (show ¬ m < f + 0 by omega), Bool.and_false]
      · rw [decide_eq_false z, Bool.false_and]
    · rintro i v σ' k m hv ⟨rfl, hi, ek, x, y, rfl, sx⟩
      unfold rgV at hv
      rw [List.getElem?_map] at hv
      obtain ⟨j, hj, rfl⟩ := Option.map_eq_some_iff.1 hv
      obtain ⟨hj1, hj2⟩ := List.getElem?_eq_some_iff.1 hj
      rw [List.length_range] at hj1
      rw [List.getElem_range] at hj2
      subst hj2
      walk_at "w"
      refine w_sof T ?_
      walk_at "w"
      refine ⟨[f + i], ?_, fun z hz => by rw [List.mem_singleton.1 hz]; omega, (show 1 ≤ 100 by decide), fun x2 k2 e2 s2 => ?_⟩
      · show [V.int ((f : Int) + (i : Int))] = [V.int ((f + i : Nat) : Int)]
        rw [Int.natCast_add]
      refine r_sop T (SetAt.ext e2 sx) s2 fun x3 k3 e3 s3 => ?_
      walk_at "w"
      exact ⟨rfl, by omega, ext_tr ek (ext_tr e2 e3), _, _, rfl, SetAt.cg s3 inR_or⟩
    · rintro σ' k m ⟨rfl, hi, ek, x, y, rfl, sx⟩
      have el : (rgV (f : Int) (e : Int)).length = e - f := by rw [rgV_length]; omega
      rw [el, show f + (e - f) = e by omega] at sx
      have st := StayAt.ext ek st
      walk_at "wi"
      refine w_sbel T ?_
      walk_at "w"
      refine ⟨_, _, rfl, sx, ?_⟩
      walk_at "w"
      refine ⟨sx, fun k1 e1 => ?_⟩
      walk_at "w"
      refine r_lenS (StayAt.ext e1 st) ?_
      walk_at "w"
      rw [int_ne (show ((L.cnt (inR f e) e : Nat) : Int) = (e : Int) - (f : Int) by rw [cnt_inR _ (Nat.le_refl _)]; omega)]
      have st := StayAt.ext e1 st
      have sx := SetAt.ext e1 sx
      have ek := ext_tr ek e1
      walk_at "wi"
      refine w_satL T ?_
      walk_at "w"
      refine ⟨_, _, rfl, sx, ?_⟩
      walk_at "w"
      have hf : inR f e f = true := by unfold inR; rw [decide_eq_true (Nat.le_refl _), decide_eq_true (show f < e by omega)]; rfl
      refine ⟨sx, fun j j1 j2 j3 => ?_, fun j => by have := j f (Nat.le_refl _); rw [hf] at this; cases this⟩
      obtain rfl : j = f := by
        rcases Nat.lt_or_ge f j with z | z
        · have := j3 f (Nat.le_refl _) z
          rw [hf] at this
          cases this
        · omega
      walk_at "w"
      try rw [int_ne rfl]
      walk_at "wi"
      refine w_ssince T ?_
      walk_at "w"
      refine ⟨by omega, fun x4 k4 e4 s4 => ?_⟩
      walk_at "w"
      have st := StayAt.ext e4 st
      refine w_ssince T ?_
      walk_at "w"
      refine ⟨by omega, fun x5 k5 e5 s5 => ?_⟩
      walk_at "w"
      refine r_sop T (SetAt.ext e5 s4) s5 fun x6 k6 e6 s6 => ?_
      walk_at "w"
      refine r_seq T (SetAt.ext (ext_tr e4 (ext_tr e5 e6)) sx) s6 ?_
      rw [if_neg Bool.false_ne_true, eqP_iff.2 inR_sub]
      exact h _ (ext_tr e0 (ext_tr ek (ext_tr e4 (ext_tr e5 e6)))) 0
end

end NN

namespace NN
open PySem PySem.Spec PyProof.Rows L2 LamX AW ClX
open Tx1 Ln D S L
-- a stay that is known
local macro_rules | `(tactic| walk_at "st") => `(tactic| first
  | assumption
  | ((with_reducible refine' StayAt.ext ?h1 ?h2); (case h1 => assumption); (case h2 => walk_at "st"))
  | ((with_reducible refine' StayAt.ext ?h1 ?h2); (case h1 => exact ext_new (by assumption)); (case h2 => walk_at "st")))
local macro_rules | `(tactic| walk_at "w2") => `(tactic| first
  | ((with_reducible refine' w_first ?h1 ?h2 ?h3 ?h4 ?_); (case h3 => rfl); (case h4 => walk_at "st"); (case h1 => assumption); (case h2 => assumption))
  | ((with_reducible refine' w_after ?h1 ?h2 ?h3 ?h4 ?_); (case h3 => rfl); (case h4 => walk_at "st"); (case h1 => assumption); (case h2 => assumption))
  | ((with_reducible refine' w_nights ?h1 ?h2 ?h3 ?h4 ?_); (case h3 => rfl); (case h4 => walk_at "st"); (case h1 => assumption); (case h2 => assumption)))
local macro_rules | `(tactic| walk_at "w") => `(tactic| repeat (first | walk_at "w1" | walk_at "w2" | dsimp only))
local macro_rules | `(tactic| walk_at "wi") => `(tactic| repeat (first | walk_at "w1" | walk_at "w2" | with_reducible refine' s_if ?_ | dsimp only))

/-! ### the law -/
def spLaw {K : PySem.W.Frag} {mg : Str → Option Value} (_ : Tx K mg) : Sp := fun vs H Q _ => ∃ (sc : Addr) (ns : List Int), vs = [.ref sc] ∧ SqL K H sc (ns.map V.int) ∧ ∀ H', Q (.bl true) H'
theorem gname_run {i : Nat} {v : V} {σ : L2.St} {H : Hp} {N : L2.St → Hp → Prop} (h : N (σ.set i (some v)) H) : gName i v σ H N := h
theorem tabs_nil {H : Hp} : Tabs [] H := fun p hp => by cases hp
def GrpAt (k : Hp) (l : Addr) : Prop := ∃ ns : List Nat, k l = some (.lst (natV ns)) ∧ 0 < ns.length ∧ ns.length ≤ 100 ∧ (∀ n ∈ ns, 1 ≤ n ∧ n ≤ 7) ∧ ∀ s ∈ ns, ∀ s' ∈ ns, Nat.lcm s s' ≤ 7
theorem lcm_grp {p q s s' : Nat} (h1 : p ∣ s) (h2 : q ∣ s') (hs : 1 ≤ s) (hs' : 1 ≤ s') (h : Nat.lcm s s' ≤ 7) : Nat.lcm p q ≤ 7 :=
  Nat.le_trans (Nat.le_of_dvd (Nat.lcm_pos hs hs') (Nat.lcm_dvd (Nat.dvd_trans h1 (Nat.dvd_lcm_left _ _)) (Nat.dvd_trans h2 (Nat.dvd_lcm_right _ _)))) h
section
variable {P : Program} {w : World} {K : PySem.W.Frag} {mg : Str → Option Value} {base : Heap}
theorem ok_law (T : Tx K mg) : FnOk P w K mg base CX0 40 T.f_law T.d_law ["script"] (spLaw T) := by
  refine T.F_law.ok sc_law (fun vs H Q E h => ?_) (fun cdv A outer s H vs Q E hr h => ?_)
  · obtain ⟨sc, ns, rfl, _⟩ := h
    rfl
  · obtain ⟨sc, ns, rfl, hs, h⟩ := h
    refine ⟨_, (pss_cons (ps_set (i := 1) sc_law.nd rfl (by first | exact Or.inl rfl | exact Or.inr rfl) (pe_call (ok__law_pen T) (hr.mono (by decide)) (by rfl) T.g__law_pen T.F__law_pen.kp T.bd__law_pen .nil pass0 (pa_cons (pv 0) pa_nil)))
       (pss_cons (ps_for PassesOwn.never rfl (pi_range1 (by rfl) T.b_range (pa_cons pe_int pa_nil)) (pg_name (i := 2) sc_law.nd rfl (by first | exact Or.inl rfl | exact Or.inr rfl))
       (pss_cons (ps_set (i := 3) sc_law.nd rfl (by first | exact Or.inl rfl | exact Or.inr rfl) (pe_call (ok__law_pick T []) (hr.mono (by decide)) (by rfl) T.g__law_pick T.F__law_pick.kp T.bd__law_pick .nil pass0 (pa_cons (pv 1) (pa_cons (pe_lst (pa_cons (pe_lst (pa_cons pe_int (pa_cons pe_int (pa_cons pe_int (pa_cons pe_int pa_nil))))) (pa_cons (pe_lst (pa_cons pe_int (pa_cons pe_int (pa_cons pe_int pa_nil)))) (pa_cons (pe_lst (pa_cons pe_int (pa_cons pe_int pa_nil))) (pa_cons (pe_lst (pa_cons pe_int (pa_cons pe_int pa_nil))) pa_nil))))) pa_nil))))
       (pss_cons (ps_par (i := 4) (j := 5) (by rfl) sc_law.nd rfl rfl (by decide) rfl rfl (pa_cons (pe_call (ok__law_days T) (hr.mono (by decide)) (by rfl) T.g__law_days T.F__law_days.kp T.bd__law_days .nil pass0 (pa_cons (pv 1) (pa_cons (pv 3) pa_nil))) (pa_cons (pe_call (ok__law_days T) (hr.mono (by decide)) (by rfl) T.g__law_days T.F__law_days.kp T.bd__law_days .nil pass0 (pa_cons (pv 1) (pa_cons (pv 3) pa_nil))) pa_nil)) (by rfl))
       (pss_cons (ps_set (i := 6) sc_law.nd rfl (by first | exact Or.inl rfl | exact Or.inr rfl) (pe_call (ok__law_pick T []) (hr.mono (by decide)) (by rfl) T.g__law_pick T.F__law_pick.kp T.bd__law_pick .nil pass0 (pa_cons (pv 1) (pa_cons (pe_lst (pa_cons (pe_op op_sub (pe_call (ok__law_draw T) (hr.mono (by decide)) (by rfl) T.g__law_draw T.F__law_draw.kp T.bd__law_draw .nil pass0 (pa_cons (pv 1) (pa_cons pe_int pa_nil))) pe_int) (pa_cons (pe_call (ok__law_draw T) (hr.mono (by decide)) (by rfl) T.g__law_draw T.F__law_draw.kp T.bd__law_draw .nil pass0 (pa_cons (pv 1) (pa_cons (pe_op op_pow pe_int pe_int) pa_nil))) pa_nil))) pa_nil))))
       (pss_cons (ps_set (i := 7) sc_law.nd rfl (by first | exact Or.inl rfl | exact Or.inr rfl) (pe_make T.mk_Stay (ok_Stay___init__ T) (hr.mono (by decide)) (by rfl) T.g_Stay T.bd_Stay___init__ .nil passL (pa_cons (pv 6) (pa_cons (pe_op op_add (pe_op op_add (pv 6) pe_int) (pe_call (ok__law_draw T) (hr.mono (by decide)) (by rfl) T.g__law_draw T.F__law_draw.kp T.bd__law_draw .nil pass0 (pa_cons (pv 1) (pa_cons (pe_call (ok__law_pick T []) (hr.mono (by decide)) (by rfl) T.g__law_pick T.F__law_pick.kp T.bd__law_pick .nil pass0 (pa_cons (pv 1) (pa_cons (pe_lst (pa_cons pe_int (pa_cons pe_int (pa_cons pe_int pa_nil)))) pa_nil))) pa_nil)))) pa_nil))))
       (pss_cons (ps_if (PW.pt (pw_or (pt_not (pt_val (pe_call (ok__law_counts_right T) (hr.mono (by decide)) (by rfl) T.g__law_counts_right T.F__law_counts_right.kp T.bd__law_counts_right .nil pass0 (pa_cons (pv 7) (pa_cons (pv 4) (pa_cons (pv 5) pa_nil)))))) (pw_or1 (pt_not (pt_val (pe_call (ok__law_moved_right T) (hr.mono (by decide)) (by rfl) T.g__law_moved_right T.F__law_moved_right.kp T.bd__law_moved_right .nil pass0 (pa_cons (pv 1) (pa_cons (pv 7) (pa_cons (pv 4) pa_nil)))))))))
       (pss_one (ps_ret pe_bl))
       pss_nil)
       (pss_cons (ps_if (pt_not (pt_val (pe_call (ok__law_parts_right T) (hr.mono (by decide)) (by rfl) T.g__law_parts_right T.F__law_parts_right.kp T.bd__law_parts_right .nil pass0 (pa_cons (pv 1) (pa_cons (pv 7) (pa_cons (pv 4) pa_nil))))))
       (pss_one (ps_ret pe_bl))
       pss_nil)
       (pss_cons (ps_set (i := 8) sc_law.nd rfl (by first | exact Or.inl rfl | exact Or.inr rfl) (pe_call (ok__law_draw T) (hr.mono (by decide)) (by rfl) T.g__law_draw T.F__law_draw.kp T.bd__law_draw .nil pass0 (pa_cons (pv 1) (pa_cons pe_int pa_nil))))
       (pss_one (ps_if (pt_not (pt_val (pe_call (ok__law_listed_right T) (hr.mono (by decide)) (by rfl) T.g__law_listed_right T.F__law_listed_right.kp T.bd__law_listed_right .nil pass0 (pa_cons (pe_make T.mk_Stay (ok_Stay___init__ T) (hr.mono (by decide)) (by rfl) T.g_Stay T.bd_Stay___init__ .nil passL (pa_cons (pv 8) (pa_cons (pe_op op_add (pe_op op_add (pv 8) pe_int) (pe_call (ok__law_draw T) (hr.mono (by decide)) (by rfl) T.g__law_draw T.F__law_draw.kp T.bd__law_draw .nil pass0 (pa_cons (pv 1) (pa_cons pe_int pa_nil)))) pa_nil))) pa_nil))))
       (pss_one (ps_ret pe_bl))
       pss_nil))))))))))
       (pss_one (ps_ret pe_bl)))), ?_⟩
    refine ⟨_, rfl, sc, ns, rfl, hs, fun p a ns' H1 pa hp ha h1 h2 eH => ?_⟩
    have g1 : AW.Good (penC p a ns' []) (fun _ => none) 0 H1 := ⟨fun x o z => (by cases z), ⟨⟨⟨0, 0, h1, by omega, by omega, by omega⟩, h2, pa⟩, tabs_nil⟩, fun _ _ => rfl, fun x o z => (by cases z)⟩
    refine gname_run ?_
    dsimp only
    refine body_of g1 ?_
    refine s_seq ?_
    refine s_join (fun σ' kn' n' => n' ≤ 1000 ∧ ∃ x0 x2 x3 x4 x5 x6 x7 x8, σ' = [x0, some (.ref p), x2, x3, x4, x5, x6, x7, x8]) ?_ ?_
    · refine s_forR1 (j := 6) (fun i σ' kn' n' => n' ≤ 60 * i ∧ ∃ x0 x2 x3 x4 x5 x6 x7 x8, σ' = [x0, some (.ref p), x2, x3, x4, x5, x6, x7, x8]) ?_ ?_ ?_
      · walk_at "w"
        refine ⟨rfl, by decide, by decide, by omega, ?_⟩
        exact ⟨_, _, _, _, _, _, _, _, rfl⟩
      · rintro i σ' kn n hi ⟨hn, x0, x2, x3, x4, x5, x6, x7, x8, rfl⟩
        have hi8 : i < 6 := hi
        walk_at "w"
        refine w_callP mo_pick err_no ?_
        walk_at "w"
        refine ⟨show 4 ≤ 1000 by decide, fun b1 h1 => ?_⟩
        walk_at "w"
        refine ⟨show 3 ≤ 1000 by decide, fun b2 h2 => ?_⟩
        walk_at "w"
        refine ⟨show 2 ≤ 1000 by decide, fun b3 h3 => ?_⟩
        walk_at "w"
        refine ⟨show 2 ≤ 1000 by decide, fun b4 h4 => ?_⟩
        walk_at "w"
        refine ⟨show 4 ≤ 1000 by decide, fun b5 h5 => ?_⟩
        walk_at "w"
        refine ⟨by omega, _, _, rfl, upd_same, show 0 < 4 by decide, show 4 ≤ 1000 by decide, fun v hv => ?_⟩
        have grp : ∃ l, v = .ref l ∧ GrpAt (upd (upd (upd (upd (upd kn b1 (.lst [.int 1, .int 2, .int 3, .int 6])) b2 (.lst [.int 1, .int 2, .int 4])) b3 (.lst [.int 1, .int 5])) b4 (.lst [.int 1, .int 7])) b5 (.lst [.ref b1, .ref b2, .ref b3, .ref b4])) l := by
          simp only [List.mem_cons, List.mem_nil_iff, or_false] at hv
          rcases hv with rfl | rfl | rfl | rfl
          · exact ⟨_, rfl, [1, 2, 3, 6], know h5 (know h4 (know h3 (know h2 upd_same))), by decide, by decide, by decide, by decide⟩
          · exact ⟨_, rfl, [1, 2, 4], know h5 (know h4 (know h3 upd_same)), by decide, by decide, by decide, by decide⟩
          · exact ⟨_, rfl, [1, 5], know h5 (know h4 upd_same), by decide, by decide, by decide, by decide⟩
          · exact ⟨_, rfl, [1, 7], know h5 upd_same, by decide, by decide, by decide, by decide⟩
        generalize upd (upd (upd (upd (upd kn b1 (.lst [.int 1, .int 2, .int 3, .int 6])) b2 (.lst [.int 1, .int 2, .int 4])) b3 (.lst [.int 1, .int 5])) b4 (.lst [.int 1, .int 7])) b5 (.lst [.ref b1, .ref b2, .ref b3, .ref b4]) = k1 at grp ⊢
        obtain ⟨l, rfl, ms, hl, m0, m1, mr, ml⟩ := grp
        clear hv h1 h2 h3 h4 h5
        walk_at "w"
        refine w_callP mo_daysL err_no ?_
        walk_at "w"
        refine ⟨by omega, l, ms, rfl, hl, m0, m1, mr, fun s1 t hs1 dt x1 k2 e2 _ d1 => ?_⟩
        walk_at "w"
        refine w_callP mo_daysL err_no ?_
        walk_at "w"
        refine ⟨by omega, l, ms, rfl, e2 _ _ hl, m0, m1, mr, fun s2 u hs2 du y1 k3 e3 _ d2 => ?_⟩
        have ll := lcm_grp dt du (mr s1 hs1).1 (mr s2 hs2).1 (ml s1 hs1 s2 hs2)
        have d1 := DayAt.ext e3 d1
        clear e2 e3 hl m0 m1 mr ml hs1 hs2 dt du
        walk_at "w"
        refine ⟨_, _, rfl, ?_⟩
        walk_at "w"
        refine w_callP mo_pick err_no ?_
        walk_at "w"
        refine w_draw ?_
        walk_at "w"
        refine ⟨by omega, by decide, by decide, fun c1 c10 c11 => ?_⟩
        walk_at "w"
        refine w_draw ?_
        walk_at "w"
        refine r_I ⟨by decide, by decide, by decide⟩ ?_
        walk_at "w"
        refine ⟨by omega, by decide, by decide, fun c2 c20 c21 => ?_⟩
        have c21' : c2 < 10000000000 := c21
        walk_at "w"
        refine ⟨show 2 ≤ 1000 by decide, fun b6 h6 => ?_⟩
        walk_at "w"
        refine ⟨by omega, _, _, rfl, upd_same, show 0 < 2 by decide, show 2 ≤ 1000 by decide, fun v hv => ?_⟩
        obtain ⟨bg, rfl, g1, g2⟩ : ∃ bg : Int, v = .int bg ∧ -20 ≤ bg ∧ bg ≤ 10000000000 := by
          simp only [List.mem_cons, List.mem_nil_iff, or_false] at hv
          rcases hv with rfl | rfl
          · exact ⟨_, rfl, by omega, by omega⟩
          · exact ⟨_, rfl, by omega, by omega⟩
        have e4 : Ext k3 (upd k3 b6 (.lst [.int (c1 - 20), .int c2])) := ext_new h6
        generalize upd k3 b6 (.lst [.int (c1 - 20), .int c2]) = k4 at e4 ⊢
        have d1 := DayAt.ext e4 d1
        have d2 := DayAt.ext e4 d2
        clear hv h6 e4
        walk_at "w"
        refine w_stay (EA := fun _ _ _ _ => False) err_no ?_
        walk_at "w"
        refine w_draw ?_
        walk_at "w"
        refine w_callP mo_pick err_no ?_
        walk_at "w"
        refine ⟨show 3 ≤ 1000 by decide, fun b7 h7 => ?_⟩
        walk_at "w"
        refine ⟨by omega, _, _, rfl, upd_same, show 0 < 3 by decide, show 3 ≤ 1000 by decide, fun v hv => ?_⟩
        obtain ⟨md, rfl, q1, q2⟩ : ∃ md : Int, v = .int md ∧ 1 ≤ md ∧ md ≤ 30 := by
          simp only [List.mem_cons, List.mem_nil_iff, or_false] at hv
          rcases hv with rfl | rfl | rfl
          · exact ⟨_, rfl, by omega, by omega⟩
          · exact ⟨_, rfl, by omega, by omega⟩
          · exact ⟨_, rfl, by omega, by omega⟩
        have e5 : Ext k4 (upd k4 b7 (.lst [.int 3, .int 12, .int 30])) := ext_new h7
        generalize upd k4 b7 (.lst [.int 3, .int 12, .int 30]) = k5 at e5 ⊢
        have d1 := DayAt.ext e5 d1
        have d2 := DayAt.ext e5 d2
        clear hv h7 e5
        walk_at "w"
        refine ⟨by omega, by omega, by omega, fun c3 c30 c31 => ?_⟩
        walk_at "w"
        refine ⟨_, _, rfl, .inl ⟨day_of ⟨by omega, by omega⟩, day_of ⟨by omega, by omega⟩, by omega, by omega, fun s k6 e6 _ st => ?_⟩⟩
        have d1 := DayAt.ext e6 d1
        have d2 := DayAt.ext e6 d2
        clear e6
        walk_at "wi"
        refine w_call (EA := fun _ _ _ _ => False) mo_counts err_no ?_
        walk_at "w"
        refine ⟨s, _, _, x1, y1, t, u, rfl, st, d1, d2, ll, fun k7 e7 => ?_⟩
        walk_at "wi"
        refine w_callP mo_movedL err_no ?_
        walk_at "w"
        refine ⟨by omega, s, _, _, x1, t, rfl, StayAt.ext e7 st, DayAt.ext e7 d1, by omega, by omega, fun k8 e8 => ?_⟩
        have e8 := ext_tr e7 e8
        walk_at "wi"
        refine w_callP mo_partsL err_no ?_
        walk_at "w"
        refine ⟨by omega, s, _, _, x1, t, rfl, StayAt.ext e8 st, DayAt.ext e8 d1, fun k9 e9 => ?_⟩
        walk_at "wi"
        refine w_draw ?_
        walk_at "w"
        refine ⟨by omega, by decide, by decide, fun c4 c40 c41 => ?_⟩
        walk_at "wi"
        refine w_call (EA := fun _ _ _ _ => False) mo_listed err_no ?_
        walk_at "w"
        refine w_stay (EA := fun _ _ _ _ => False) err_no ?_
        walk_at "w"
        refine w_draw ?_
        walk_at "w"
        refine ⟨by omega, by decide, by decide, fun c5 c50 c51 => ?_⟩
        walk_at "w"
        refine ⟨_, _, rfl, .inl ⟨day_of ⟨by omega, by omega⟩, day_of ⟨by omega, by omega⟩, by omega, by omega, fun s2 k10 e10 _ st2 => ?_⟩⟩
        walk_at "w"
        obtain ⟨F, hF⟩ : ∃ F : Nat, c4 = F := ⟨c4.toNat, by omega⟩
        obtain ⟨G, hG⟩ : ∃ G : Nat, c4 + 1 + c5 = G := ⟨(c4 + 1 + c5).toNat, by omega⟩
        rw [hG, hF] at st2
        refine ⟨s2, F, G, rfl, st2, by omega, fun k11 e11 => ?_⟩
        walk_at "wi"
        exact ⟨by omega, _, _, _, _, _, _, _, _, rfl⟩
      · rintro σ' kn n ⟨hn, q⟩
        exact ⟨by omega, q⟩
    · rintro σ' kn n ⟨hn, x0, x2, x3, x4, x5, x6, x7, x8, rfl⟩
      walk_at "w"
      exact fun H' _ => h H'
end
/-- the law at its head -/
theorem law_at {l : PySem.W.OpenLaw} {w : World} {K : PySem.W.Frag} {mg : Str → Option Value} {h : Heap} {fa : Addr} (T : Tx K mg) (hfa : T.f_law = fa) : LawAtG l w K CX0 40 63 "script" mg fa h := by
  subst hfa
  refine ⟨T.d_law, [], spLaw T, fun p hp => (by cases hp), fun p hp => (by cases hp), fun p hp => (by cases hp), ?_, ?_, ?_⟩
  · intro s u
    obtain ⟨oc, od, kV, doc, pm, an, cdv, ct, osl, hfd, _, _⟩ := T.F_law.ex
    rw [hfd]
    exact BindsTo.of_eq (by rfl)
  · intro H a nums hl hb ht hs
    exact ⟨a, nums, rfl, hs, fun H' => rfl⟩
  · intro base hK hNs ht
    exact (ok_law T).g

end NN

namespace NN
open PySem PySem.Spec PyProof.Rows L2 LamX AW ClX
theorem all_mk {K : PySem.W.Frag} {h : Heap} {mg : Str → Option Value} {l : PySem.W.OpenLaw} {w : World} {fa : Addr} (hfa : mg "law" = some (.ref fa)) (X : K.In h) (G : h.Ns mainGlobals mg)
    {f_is_whole : Addr}
    {oc_is_whole : Value}
    {kV_is_whole : Value}
    {dc_is_whole : Value}
    {pm_is_whole : Value}
    {cd_is_whole : Value}
    {ct_is_whole : Value}
    {od_is_whole : Option Addr}
    {an_is_whole : Option Addr}
    {sl_is_whole : Array (Option Value)}
    {f_is_from : Addr}
    {oc_is_from : Value}
    {kV_is_from : Value}
    {dc_is_from : Value}
    {pm_is_from : Value}
    {cd_is_from : Value}
    {ct_is_from : Value}
    {od_is_from : Option Addr}
    {an_is_from : Option Addr}
    {sl_is_from : Array (Option Value)}
    {f_is_day : Addr}
    {oc_is_day : Value}
    {kV_is_day : Value}
    {dc_is_day : Value}
    {pm_is_day : Value}
    {cd_is_day : Value}
    {ct_is_day : Value}
    {od_is_day : Option Addr}
    {an_is_day : Option Addr}
    {sl_is_day : Array (Option Value)}
    {f_are_from : Addr}
    {oc_are_from : Value}
    {kV_are_from : Value}
    {dc_are_from : Value}
    {pm_are_from : Value}
    {cd_are_from : Value}
    {ct_are_from : Value}
    {od_are_from : Option Addr}
    {an_are_from : Option Addr}
    {sl_are_from : Array (Option Value)}
    {f_marked : Addr}
    {oc_marked : Value}
    {kV_marked : Value}
    {dc_marked : Value}
    {pm_marked : Value}
    {cd_marked : Value}
    {ct_marked : Value}
    {od_marked : Option Addr}
    {an_marked : Option Addr}
    {sl_marked : Array (Option Value)}
    {f_least_period : Addr}
    {oc_least_period : Value}
    {kV_least_period : Value}
    {dc_least_period : Value}
    {pm_least_period : Value}
    {cd_least_period : Value}
    {ct_least_period : Value}
    {od_least_period : Option Addr}
    {an_least_period : Option Addr}
    {sl_least_period : Array (Option Value)}
    {f_common_period : Addr}
    {oc_common_period : Value}
    {kV_common_period : Value}
    {dc_common_period : Value}
    {pm_common_period : Value}
    {cd_common_period : Value}
    {ct_common_period : Value}
    {od_common_period : Option Addr}
    {an_common_period : Option Addr}
    {sl_common_period : Array (Option Value)}
    {f_check_parts : Addr}
    {oc_check_parts : Value}
    {kV_check_parts : Value}
    {dc_check_parts : Value}
    {pm_check_parts : Value}
    {cd_check_parts : Value}
    {ct_check_parts : Value}
    {od_check_parts : Option Addr}
    {an_check_parts : Option Addr}
    {sl_check_parts : Array (Option Value)}
    {f_check_size : Addr}
    {oc_check_size : Value}
    {kV_check_size : Value}
    {dc_check_size : Value}
    {pm_check_size : Value}
    {cd_check_size : Value}
    {ct_check_size : Value}
    {od_check_size : Option Addr}
    {an_check_size : Option Addr}
    {sl_check_size : Array (Option Value)}
    {f_check_argument : Addr}
    {oc_check_argument : Value}
    {kV_check_argument : Value}
    {dc_check_argument : Value}
    {pm_check_argument : Value}
    {cd_check_argument : Value}
    {ct_check_argument : Value}
    {od_check_argument : Option Addr}
    {an_check_argument : Option Addr}
    {sl_check_argument : Array (Option Value)}
    {f_check_number : Addr}
    {oc_check_number : Value}
    {kV_check_number : Value}
    {dc_check_number : Value}
    {pm_check_number : Value}
    {cd_check_number : Value}
    {ct_check_number : Value}
    {od_check_number : Option Addr}
    {an_check_number : Option Addr}
    {sl_check_number : Array (Option Value)}
    {f_common_form : Addr}
    {oc_common_form : Value}
    {kV_common_form : Value}
    {dc_common_form : Value}
    {pm_common_form : Value}
    {cd_common_form : Value}
    {ct_common_form : Value}
    {od_common_form : Option Addr}
    {an_common_form : Option Addr}
    {sl_common_form : Array (Option Value)}
    {f_gathered : Addr}
    {oc_gathered : Value}
    {kV_gathered : Value}
    {dc_gathered : Value}
    {pm_gathered : Value}
    {cd_gathered : Value}
    {ct_gathered : Value}
    {od_gathered : Option Addr}
    {an_gathered : Option Addr}
    {sl_gathered : Array (Option Value)}
    {c_StayError : Addr}
    {c_BadDays : Addr}
    {nm_BadDays : Str}
    {q_BadDays : Str}
    {N_BadDays : Addr}
    {bs_BadDays : List Value}
    {bm_BadDays : List Value}
    {sn_BadDays : List Str}
    {sub_BadDays : List Value}
    {ab_BadDays : Bool}
    {col_BadDays : Option Bool}
    {dd_BadDays : Option Addr}
    {m0_BadDays : Option Value}
    {m1_BadDays : Option Value}
    {m2_BadDays : Option Value}
    {m3_BadDays : Option Value}
    {m5_BadDays : Option Value}
    {f_BadDays___init__ : Addr}
    {oc_BadDays___init__ : Value}
    {kV_BadDays___init__ : Value}
    {dc_BadDays___init__ : Value}
    {pm_BadDays___init__ : Value}
    {cd_BadDays___init__ : Value}
    {ct_BadDays___init__ : Value}
    {od_BadDays___init__ : Option Addr}
    {an_BadDays___init__ : Option Addr}
    {sl_BadDays___init__ : Array (Option Value)}
    {c_BadStay : Addr}
    {nm_BadStay : Str}
    {q_BadStay : Str}
    {N_BadStay : Addr}
    {bs_BadStay : List Value}
    {bm_BadStay : List Value}
    {sn_BadStay : List Str}
    {sub_BadStay : List Value}
    {ab_BadStay : Bool}
    {col_BadStay : Option Bool}
    {dd_BadStay : Option Addr}
    {m0_BadStay : Option Value}
    {m1_BadStay : Option Value}
    {m2_BadStay : Option Value}
    {m3_BadStay : Option Value}
    {m5_BadStay : Option Value}
    {f_BadStay___init__ : Addr}
    {oc_BadStay___init__ : Value}
    {kV_BadStay___init__ : Value}
    {dc_BadStay___init__ : Value}
    {pm_BadStay___init__ : Value}
    {cd_BadStay___init__ : Value}
    {ct_BadStay___init__ : Value}
    {od_BadStay___init__ : Option Addr}
    {an_BadStay___init__ : Option Addr}
    {sl_BadStay___init__ : Array (Option Value)}
    {c_TooMany : Addr}
    {nm_TooMany : Str}
    {q_TooMany : Str}
    {N_TooMany : Addr}
    {bs_TooMany : List Value}
    {bm_TooMany : List Value}
    {sn_TooMany : List Str}
    {sub_TooMany : List Value}
    {ab_TooMany : Bool}
    {col_TooMany : Option Bool}
    {dd_TooMany : Option Addr}
    {m0_TooMany : Option Value}
    {m1_TooMany : Option Value}
    {m2_TooMany : Option Value}
    {m3_TooMany : Option Value}
    {m5_TooMany : Option Value}
    {f_TooMany___init__ : Addr}
    {oc_TooMany___init__ : Value}
    {kV_TooMany___init__ : Value}
    {dc_TooMany___init__ : Value}
    {pm_TooMany___init__ : Value}
    {cd_TooMany___init__ : Value}
    {ct_TooMany___init__ : Value}
    {od_TooMany___init__ : Option Addr}
    {an_TooMany___init__ : Option Addr}
    {sl_TooMany___init__ : Array (Option Value)}
    {c_Days : Addr}
    {f_Days___init__ : Addr}
    {oc_Days___init__ : Value}
    {kV_Days___init__ : Value}
    {dc_Days___init__ : Value}
    {pm_Days___init__ : Value}
    {cd_Days___init__ : Value}
    {ct_Days___init__ : Value}
    {od_Days___init__ : Option Addr}
    {an_Days___init__ : Option Addr}
    {sl_Days___init__ : Array (Option Value)}
    {f_Days___eq__ : Addr}
    {oc_Days___eq__ : Value}
    {kV_Days___eq__ : Value}
    {dc_Days___eq__ : Value}
    {pm_Days___eq__ : Value}
    {cd_Days___eq__ : Value}
    {ct_Days___eq__ : Value}
    {od_Days___eq__ : Option Addr}
    {an_Days___eq__ : Option Addr}
    {sl_Days___eq__ : Array (Option Value)}
    {f_Days___contains__ : Addr}
    {oc_Days___contains__ : Value}
    {kV_Days___contains__ : Value}
    {dc_Days___contains__ : Value}
    {pm_Days___contains__ : Value}
    {cd_Days___contains__ : Value}
    {ct_Days___contains__ : Value}
    {od_Days___contains__ : Option Addr}
    {an_Days___contains__ : Option Addr}
    {sl_Days___contains__ : Array (Option Value)}
    {f_Days___and__ : Addr}
    {oc_Days___and__ : Value}
    {kV_Days___and__ : Value}
    {dc_Days___and__ : Value}
    {pm_Days___and__ : Value}
    {cd_Days___and__ : Value}
    {ct_Days___and__ : Value}
    {od_Days___and__ : Option Addr}
    {an_Days___and__ : Option Addr}
    {sl_Days___and__ : Array (Option Value)}
    {f_Days___or__ : Addr}
    {oc_Days___or__ : Value}
    {kV_Days___or__ : Value}
    {dc_Days___or__ : Value}
    {pm_Days___or__ : Value}
    {cd_Days___or__ : Value}
    {ct_Days___or__ : Value}
    {od_Days___or__ : Option Addr}
    {an_Days___or__ : Option Addr}
    {sl_Days___or__ : Array (Option Value)}
    {f_Days___sub__ : Addr}
    {oc_Days___sub__ : Value}
    {kV_Days___sub__ : Value}
    {dc_Days___sub__ : Value}
    {pm_Days___sub__ : Value}
    {cd_Days___sub__ : Value}
    {ct_Days___sub__ : Value}
    {od_Days___sub__ : Option Addr}
    {an_Days___sub__ : Option Addr}
    {sl_Days___sub__ : Array (Option Value)}
    {f_Days___invert__ : Addr}
    {oc_Days___invert__ : Value}
    {kV_Days___invert__ : Value}
    {dc_Days___invert__ : Value}
    {pm_Days___invert__ : Value}
    {cd_Days___invert__ : Value}
    {ct_Days___invert__ : Value}
    {od_Days___invert__ : Option Addr}
    {an_Days___invert__ : Option Addr}
    {sl_Days___invert__ : Array (Option Value)}
    {f_Days___rshift__ : Addr}
    {oc_Days___rshift__ : Value}
    {kV_Days___rshift__ : Value}
    {dc_Days___rshift__ : Value}
    {pm_Days___rshift__ : Value}
    {cd_Days___rshift__ : Value}
    {ct_Days___rshift__ : Value}
    {od_Days___rshift__ : Option Addr}
    {an_Days___rshift__ : Option Addr}
    {sl_Days___rshift__ : Array (Option Value)}
    {f_Days___lshift__ : Addr}
    {oc_Days___lshift__ : Value}
    {kV_Days___lshift__ : Value}
    {dc_Days___lshift__ : Value}
    {pm_Days___lshift__ : Value}
    {cd_Days___lshift__ : Value}
    {ct_Days___lshift__ : Value}
    {od_Days___lshift__ : Option Addr}
    {an_Days___lshift__ : Option Addr}
    {sl_Days___lshift__ : Array (Option Value)}
    {f_Days___le__ : Addr}
    {oc_Days___le__ : Value}
    {kV_Days___le__ : Value}
    {dc_Days___le__ : Value}
    {pm_Days___le__ : Value}
    {cd_Days___le__ : Value}
    {ct_Days___le__ : Value}
    {od_Days___le__ : Option Addr}
    {an_Days___le__ : Option Addr}
    {sl_Days___le__ : Array (Option Value)}
    {f_Days_following : Addr}
    {oc_Days_following : Value}
    {kV_Days_following : Value}
    {dc_Days_following : Value}
    {pm_Days_following : Value}
    {cd_Days_following : Value}
    {ct_Days_following : Value}
    {od_Days_following : Option Addr}
    {an_Days_following : Option Addr}
    {sl_Days_following : Array (Option Value)}
    {cd_Days : ClassData}
    {f_Days_none : Addr}
    {p_Days_none : Addr}
    {rest_Days_none : List Value}
    {oc_Days_none : Value}
    {kV_Days_none : Value}
    {dc_Days_none : Value}
    {pm_Days_none : Value}
    {cd_Days_none : Value}
    {ct_Days_none : Value}
    {od_Days_none : Option Addr}
    {an_Days_none : Option Addr}
    {sl_Days_none : Array (Option Value)}
    {f_Days_period : Addr}
    {p_Days_period : Addr}
    {rest_Days_period : List Value}
    {oc_Days_period : Value}
    {kV_Days_period : Value}
    {dc_Days_period : Value}
    {pm_Days_period : Value}
    {cd_Days_period : Value}
    {ct_Days_period : Value}
    {od_Days_period : Option Addr}
    {an_Days_period : Option Addr}
    {sl_Days_period : Array (Option Value)}
    {c_Stay : Addr}
    {f_Stay___init__ : Addr}
    {oc_Stay___init__ : Value}
    {kV_Stay___init__ : Value}
    {dc_Stay___init__ : Value}
    {pm_Stay___init__ : Value}
    {cd_Stay___init__ : Value}
    {ct_Stay___init__ : Value}
    {od_Stay___init__ : Option Addr}
    {an_Stay___init__ : Option Addr}
    {sl_Stay___init__ : Array (Option Value)}
    {f_Stay___len__ : Addr}
    {oc_Stay___len__ : Value}
    {kV_Stay___len__ : Value}
    {dc_Stay___len__ : Value}
    {pm_Stay___len__ : Value}
    {cd_Stay___len__ : Value}
    {ct_Stay___len__ : Value}
    {od_Stay___len__ : Option Addr}
    {an_Stay___len__ : Option Addr}
    {sl_Stay___len__ : Array (Option Value)}
    {f_Stay___iter__ : Addr}
    {oc_Stay___iter__ : Value}
    {kV_Stay___iter__ : Value}
    {dc_Stay___iter__ : Value}
    {pm_Stay___iter__ : Value}
    {cd_Stay___iter__ : Value}
    {ct_Stay___iter__ : Value}
    {od_Stay___iter__ : Option Addr}
    {an_Stay___iter__ : Option Addr}
    {sl_Stay___iter__ : Array (Option Value)}
    {f_Stay___rshift__ : Addr}
    {oc_Stay___rshift__ : Value}
    {kV_Stay___rshift__ : Value}
    {dc_Stay___rshift__ : Value}
    {pm_Stay___rshift__ : Value}
    {cd_Stay___rshift__ : Value}
    {ct_Stay___rshift__ : Value}
    {od_Stay___rshift__ : Option Addr}
    {an_Stay___rshift__ : Option Addr}
    {sl_Stay___rshift__ : Array (Option Value)}
    {f_Stay___lshift__ : Addr}
    {oc_Stay___lshift__ : Value}
    {kV_Stay___lshift__ : Value}
    {dc_Stay___lshift__ : Value}
    {pm_Stay___lshift__ : Value}
    {cd_Stay___lshift__ : Value}
    {ct_Stay___lshift__ : Value}
    {od_Stay___lshift__ : Option Addr}
    {an_Stay___lshift__ : Option Addr}
    {sl_Stay___lshift__ : Array (Option Value)}
    {f_Stay___floordiv__ : Addr}
    {oc_Stay___floordiv__ : Value}
    {kV_Stay___floordiv__ : Value}
    {dc_Stay___floordiv__ : Value}
    {pm_Stay___floordiv__ : Value}
    {cd_Stay___floordiv__ : Value}
    {ct_Stay___floordiv__ : Value}
    {od_Stay___floordiv__ : Option Addr}
    {an_Stay___floordiv__ : Option Addr}
    {sl_Stay___floordiv__ : Array (Option Value)}
    {f_Stay_meets : Addr}
    {oc_Stay_meets : Value}
    {kV_Stay_meets : Value}
    {dc_Stay_meets : Value}
    {pm_Stay_meets : Value}
    {cd_Stay_meets : Value}
    {ct_Stay_meets : Value}
    {od_Stay_meets : Option Addr}
    {an_Stay_meets : Option Addr}
    {sl_Stay_meets : Array (Option Value)}
    {c_Lengths : Addr}
    {f_Lengths___init__ : Addr}
    {oc_Lengths___init__ : Value}
    {kV_Lengths___init__ : Value}
    {dc_Lengths___init__ : Value}
    {pm_Lengths___init__ : Value}
    {cd_Lengths___init__ : Value}
    {ct_Lengths___init__ : Value}
    {od_Lengths___init__ : Option Addr}
    {an_Lengths___init__ : Option Addr}
    {sl_Lengths___init__ : Array (Option Value)}
    {dt_Lengths___init__ : Addr}
    {tk_Lengths___init__ : Tok}
    {nt_Lengths___init__ : Nat}
    {ot_Lengths___init__ : Option Addr}
    {st_Lengths___init__ : Array (Option Value)}
    {dl_Lengths___init__ : Addr}
    {dr_Lengths___init__ : Addr}
    {ndl_Lengths___init__ : Nat}
    {odl_Lengths___init__ : Option Addr}
    {sdl_Lengths___init__ : Array (Option Value)}
    {ndr_Lengths___init__ : Nat}
    {odr_Lengths___init__ : Option Addr}
    {sdr_Lengths___init__ : Array (Option Value)}
    {f_Lengths___eq__ : Addr}
    {oc_Lengths___eq__ : Value}
    {kV_Lengths___eq__ : Value}
    {dc_Lengths___eq__ : Value}
    {pm_Lengths___eq__ : Value}
    {cd_Lengths___eq__ : Value}
    {ct_Lengths___eq__ : Value}
    {od_Lengths___eq__ : Option Addr}
    {an_Lengths___eq__ : Option Addr}
    {sl_Lengths___eq__ : Array (Option Value)}
    {f_Lengths___contains__ : Addr}
    {oc_Lengths___contains__ : Value}
    {kV_Lengths___contains__ : Value}
    {dc_Lengths___contains__ : Value}
    {pm_Lengths___contains__ : Value}
    {cd_Lengths___contains__ : Value}
    {ct_Lengths___contains__ : Value}
    {od_Lengths___contains__ : Option Addr}
    {an_Lengths___contains__ : Option Addr}
    {sl_Lengths___contains__ : Array (Option Value)}
    {f_Lengths___or__ : Addr}
    {oc_Lengths___or__ : Value}
    {kV_Lengths___or__ : Value}
    {dc_Lengths___or__ : Value}
    {pm_Lengths___or__ : Value}
    {cd_Lengths___or__ : Value}
    {ct_Lengths___or__ : Value}
    {od_Lengths___or__ : Option Addr}
    {an_Lengths___or__ : Option Addr}
    {sl_Lengths___or__ : Array (Option Value)}
    {f_Lengths___sub__ : Addr}
    {oc_Lengths___sub__ : Value}
    {kV_Lengths___sub__ : Value}
    {dc_Lengths___sub__ : Value}
    {pm_Lengths___sub__ : Value}
    {cd_Lengths___sub__ : Value}
    {ct_Lengths___sub__ : Value}
    {od_Lengths___sub__ : Option Addr}
    {an_Lengths___sub__ : Option Addr}
    {sl_Lengths___sub__ : Array (Option Value)}
    {f_Lengths_at_least : Addr}
    {oc_Lengths_at_least : Value}
    {kV_Lengths_at_least : Value}
    {dc_Lengths_at_least : Value}
    {pm_Lengths_at_least : Value}
    {cd_Lengths_at_least : Value}
    {ct_Lengths_at_least : Value}
    {od_Lengths_at_least : Option Addr}
    {an_Lengths_at_least : Option Addr}
    {sl_Lengths_at_least : Array (Option Value)}
    {f_Lengths_below : Addr}
    {oc_Lengths_below : Value}
    {kV_Lengths_below : Value}
    {dc_Lengths_below : Value}
    {pm_Lengths_below : Value}
    {cd_Lengths_below : Value}
    {ct_Lengths_below : Value}
    {od_Lengths_below : Option Addr}
    {an_Lengths_below : Option Addr}
    {sl_Lengths_below : Array (Option Value)}
    {f_Lengths_none : Addr}
    {p_Lengths_none : Addr}
    {rest_Lengths_none : List Value}
    {oc_Lengths_none : Value}
    {kV_Lengths_none : Value}
    {dc_Lengths_none : Value}
    {pm_Lengths_none : Value}
    {cd_Lengths_none : Value}
    {ct_Lengths_none : Value}
    {od_Lengths_none : Option Addr}
    {an_Lengths_none : Option Addr}
    {sl_Lengths_none : Array (Option Value)}
    {f_Lengths_of : Addr}
    {p_Lengths_of : Addr}
    {rest_Lengths_of : List Value}
    {oc_Lengths_of : Value}
    {kV_Lengths_of : Value}
    {dc_Lengths_of : Value}
    {pm_Lengths_of : Value}
    {cd_Lengths_of : Value}
    {ct_Lengths_of : Value}
    {od_Lengths_of : Option Addr}
    {an_Lengths_of : Option Addr}
    {sl_Lengths_of : Array (Option Value)}
    {f_Lengths_since : Addr}
    {p_Lengths_since : Addr}
    {rest_Lengths_since : List Value}
    {oc_Lengths_since : Value}
    {kV_Lengths_since : Value}
    {dc_Lengths_since : Value}
    {pm_Lengths_since : Value}
    {cd_Lengths_since : Value}
    {ct_Lengths_since : Value}
    {od_Lengths_since : Option Addr}
    {an_Lengths_since : Option Addr}
    {sl_Lengths_since : Array (Option Value)}
    {f_Lengths_start : Addr}
    {p_Lengths_start : Addr}
    {rest_Lengths_start : List Value}
    {oc_Lengths_start : Value}
    {kV_Lengths_start : Value}
    {dc_Lengths_start : Value}
    {pm_Lengths_start : Value}
    {cd_Lengths_start : Value}
    {ct_Lengths_start : Value}
    {od_Lengths_start : Option Addr}
    {an_Lengths_start : Option Addr}
    {sl_Lengths_start : Array (Option Value)}
    {f_Lengths_period : Addr}
    {p_Lengths_period : Addr}
    {rest_Lengths_period : List Value}
    {oc_Lengths_period : Value}
    {kV_Lengths_period : Value}
    {dc_Lengths_period : Value}
    {pm_Lengths_period : Value}
    {cd_Lengths_period : Value}
    {ct_Lengths_period : Value}
    {od_Lengths_period : Option Addr}
    {an_Lengths_period : Option Addr}
    {sl_Lengths_period : Array (Option Value)}
    {f__law_pen : Addr}
    {oc__law_pen : Value}
    {kV__law_pen : Value}
    {dc__law_pen : Value}
    {pm__law_pen : Value}
    {cd__law_pen : Value}
    {ct__law_pen : Value}
    {od__law_pen : Option Addr}
    {an__law_pen : Option Addr}
    {sl__law_pen : Array (Option Value)}
    {f__law_draw : Addr}
    {oc__law_draw : Value}
    {kV__law_draw : Value}
    {dc__law_draw : Value}
    {pm__law_draw : Value}
    {cd__law_draw : Value}
    {ct__law_draw : Value}
    {od__law_draw : Option Addr}
    {an__law_draw : Option Addr}
    {sl__law_draw : Array (Option Value)}
    {f__law_pick : Addr}
    {oc__law_pick : Value}
    {kV__law_pick : Value}
    {dc__law_pick : Value}
    {pm__law_pick : Value}
    {cd__law_pick : Value}
    {ct__law_pick : Value}
    {od__law_pick : Option Addr}
    {an__law_pick : Option Addr}
    {sl__law_pick : Array (Option Value)}
    {f__law_days : Addr}
    {oc__law_days : Value}
    {kV__law_days : Value}
    {dc__law_days : Value}
    {pm__law_days : Value}
    {cd__law_days : Value}
    {ct__law_days : Value}
    {od__law_days : Option Addr}
    {an__law_days : Option Addr}
    {sl__law_days : Array (Option Value)}
    {f__law_many : Addr}
    {oc__law_many : Value}
    {kV__law_many : Value}
    {dc__law_many : Value}
    {pm__law_many : Value}
    {cd__law_many : Value}
    {ct__law_many : Value}
    {od__law_many : Option Addr}
    {an__law_many : Option Addr}
    {sl__law_many : Array (Option Value)}
    {f__law_counts_right : Addr}
    {oc__law_counts_right : Value}
    {kV__law_counts_right : Value}
    {dc__law_counts_right : Value}
    {pm__law_counts_right : Value}
    {cd__law_counts_right : Value}
    {ct__law_counts_right : Value}
    {od__law_counts_right : Option Addr}
    {an__law_counts_right : Option Addr}
    {sl__law_counts_right : Array (Option Value)}
    {f__law_moved_right : Addr}
    {oc__law_moved_right : Value}
    {kV__law_moved_right : Value}
    {dc__law_moved_right : Value}
    {pm__law_moved_right : Value}
    {cd__law_moved_right : Value}
    {ct__law_moved_right : Value}
    {od__law_moved_right : Option Addr}
    {an__law_moved_right : Option Addr}
    {sl__law_moved_right : Array (Option Value)}
    {f__law_parts_right : Addr}
    {oc__law_parts_right : Value}
    {kV__law_parts_right : Value}
    {dc__law_parts_right : Value}
    {pm__law_parts_right : Value}
    {cd__law_parts_right : Value}
    {ct__law_parts_right : Value}
    {od__law_parts_right : Option Addr}
    {an__law_parts_right : Option Addr}
    {sl__law_parts_right : Array (Option Value)}
    {f__law_listed_right : Addr}
    {oc__law_listed_right : Value}
    {kV__law_listed_right : Value}
    {dc__law_listed_right : Value}
    {pm__law_listed_right : Value}
    {cd__law_listed_right : Value}
    {ct__law_listed_right : Value}
    {od__law_listed_right : Option Addr}
    {an__law_listed_right : Option Addr}
    {sl__law_listed_right : Array (Option Value)}
    {f_law : Addr}
    {oc_law : Value}
    {kV_law : Value}
    {dc_law : Value}
    {pm_law : Value}
    {cd_law : Value}
    {ct_law : Value}
    {od_law : Option Addr}
    {an_law : Option Addr}
    {sl_law : Array (Option Value)}
    {t_LAST_DAY : Tok}
    {t_Days_MOST : Tok}
    {t_Stay_MOST : Tok}
    {t_Lengths_MOST : Tok}
    (a_is_whole : PySem.W.nsIn K mainGlobals "is_whole" = some (some (.ref f_is_whole)))
    (l_is_whole : K.lookup f_is_whole = some ⟨oc_is_whole, od_is_whole, .func (PySem.W.fnOf "is_whole" "is_whole" (defArgs s_is_whole) (defBody s_is_whole) (defScope s_is_whole) .none kV_is_whole dc_is_whole pm_is_whole an_is_whole cd_is_whole ct_is_whole), sl_is_whole⟩)
    (c_is_whole_ : PySem.W.codeIn K cd_is_whole "is_whole" = true)
    (k_is_whole : PySem.W.keepIn K (.ref f_is_whole) = true)
    (a_is_from : PySem.W.nsIn K mainGlobals "is_from" = some (some (.ref f_is_from)))
    (l_is_from : K.lookup f_is_from = some ⟨oc_is_from, od_is_from, .func (PySem.W.fnOf "is_from" "is_from" (defArgs s_is_from) (defBody s_is_from) (defScope s_is_from) .none kV_is_from dc_is_from pm_is_from an_is_from cd_is_from ct_is_from), sl_is_from⟩)
    (c_is_from_ : PySem.W.codeIn K cd_is_from "is_from" = true)
    (k_is_from : PySem.W.keepIn K (.ref f_is_from) = true)
    (a_is_day : PySem.W.nsIn K mainGlobals "is_day" = some (some (.ref f_is_day)))
    (l_is_day : K.lookup f_is_day = some ⟨oc_is_day, od_is_day, .func (PySem.W.fnOf "is_day" "is_day" (defArgs s_is_day) (defBody s_is_day) (defScope s_is_day) .none kV_is_day dc_is_day pm_is_day an_is_day cd_is_day ct_is_day), sl_is_day⟩)
    (c_is_day_ : PySem.W.codeIn K cd_is_day "is_day" = true)
    (k_is_day : PySem.W.keepIn K (.ref f_is_day) = true)
    (a_are_from : PySem.W.nsIn K mainGlobals "are_from" = some (some (.ref f_are_from)))
    (l_are_from : K.lookup f_are_from = some ⟨oc_are_from, od_are_from, .func (PySem.W.fnOf "are_from" "are_from" (defArgs s_are_from) (defBody s_are_from) (defScope s_are_from) .none kV_are_from dc_are_from pm_are_from an_are_from cd_are_from ct_are_from), sl_are_from⟩)
    (c_are_from_ : PySem.W.codeIn K cd_are_from "are_from" = true)
    (k_are_from : PySem.W.keepIn K (.ref f_are_from) = true)
    (a_marked : PySem.W.nsIn K mainGlobals "marked" = some (some (.ref f_marked)))
    (l_marked : K.lookup f_marked = some ⟨oc_marked, od_marked, .func (PySem.W.fnOf "marked" "marked" (defArgs s_marked) (defBody s_marked) (defScope s_marked) .none kV_marked dc_marked pm_marked an_marked cd_marked ct_marked), sl_marked⟩)
    (c_marked_ : PySem.W.codeIn K cd_marked "marked" = true)
    (k_marked : PySem.W.keepIn K (.ref f_marked) = true)
    (a_least_period : PySem.W.nsIn K mainGlobals "least_period" = some (some (.ref f_least_period)))
    (l_least_period : K.lookup f_least_period = some ⟨oc_least_period, od_least_period, .func (PySem.W.fnOf "least_period" "least_period" (defArgs s_least_period) (defBody s_least_period) (defScope s_least_period) .none kV_least_period dc_least_period pm_least_period an_least_period cd_least_period ct_least_period), sl_least_period⟩)
    (c_least_period_ : PySem.W.codeIn K cd_least_period "least_period" = true)
    (k_least_period : PySem.W.keepIn K (.ref f_least_period) = true)
    (a_common_period : PySem.W.nsIn K mainGlobals "common_period" = some (some (.ref f_common_period)))
    (l_common_period : K.lookup f_common_period = some ⟨oc_common_period, od_common_period, .func (PySem.W.fnOf "common_period" "common_period" (defArgs s_common_period) (defBody s_common_period) (defScope s_common_period) .none kV_common_period dc_common_period pm_common_period an_common_period cd_common_period ct_common_period), sl_common_period⟩)
    (c_common_period_ : PySem.W.codeIn K cd_common_period "common_period" = true)
    (k_common_period : PySem.W.keepIn K (.ref f_common_period) = true)
    (a_check_parts : PySem.W.nsIn K mainGlobals "check_parts" = some (some (.ref f_check_parts)))
    (l_check_parts : K.lookup f_check_parts = some ⟨oc_check_parts, od_check_parts, .func (PySem.W.fnOf "check_parts" "check_parts" (defArgs s_check_parts) (defBody s_check_parts) (defScope s_check_parts) .none kV_check_parts dc_check_parts pm_check_parts an_check_parts cd_check_parts ct_check_parts), sl_check_parts⟩)
    (c_check_parts_ : PySem.W.codeIn K cd_check_parts "check_parts" = true)
    (k_check_parts : PySem.W.keepIn K (.ref f_check_parts) = true)
    (a_check_size : PySem.W.nsIn K mainGlobals "check_size" = some (some (.ref f_check_size)))
    (l_check_size : K.lookup f_check_size = some ⟨oc_check_size, od_check_size, .func (PySem.W.fnOf "check_size" "check_size" (defArgs s_check_size) (defBody s_check_size) (defScope s_check_size) .none kV_check_size dc_check_size pm_check_size an_check_size cd_check_size ct_check_size), sl_check_size⟩)
    (c_check_size_ : PySem.W.codeIn K cd_check_size "check_size" = true)
    (k_check_size : PySem.W.keepIn K (.ref f_check_size) = true)
    (a_check_argument : PySem.W.nsIn K mainGlobals "check_argument" = some (some (.ref f_check_argument)))
    (l_check_argument : K.lookup f_check_argument = some ⟨oc_check_argument, od_check_argument, .func (PySem.W.fnOf "check_argument" "check_argument" (defArgs s_check_argument) (defBody s_check_argument) (defScope s_check_argument) .none kV_check_argument dc_check_argument pm_check_argument an_check_argument cd_check_argument ct_check_argument), sl_check_argument⟩)
    (c_check_argument_ : PySem.W.codeIn K cd_check_argument "check_argument" = true)
    (k_check_argument : PySem.W.keepIn K (.ref f_check_argument) = true)
    (a_check_number : PySem.W.nsIn K mainGlobals "check_number" = some (some (.ref f_check_number)))
    (l_check_number : K.lookup f_check_number = some ⟨oc_check_number, od_check_number, .func (PySem.W.fnOf "check_number" "check_number" (defArgs s_check_number) (defBody s_check_number) (defScope s_check_number) .none kV_check_number dc_check_number pm_check_number an_check_number cd_check_number ct_check_number), sl_check_number⟩)
    (c_check_number_ : PySem.W.codeIn K cd_check_number "check_number" = true)
    (k_check_number : PySem.W.keepIn K (.ref f_check_number) = true)
    (a_common_form : PySem.W.nsIn K mainGlobals "common_form" = some (some (.ref f_common_form)))
    (l_common_form : K.lookup f_common_form = some ⟨oc_common_form, od_common_form, .func (PySem.W.fnOf "common_form" "common_form" (defArgs s_common_form) (defBody s_common_form) (defScope s_common_form) .none kV_common_form dc_common_form pm_common_form an_common_form cd_common_form ct_common_form), sl_common_form⟩)
    (c_common_form_ : PySem.W.codeIn K cd_common_form "common_form" = true)
    (k_common_form : PySem.W.keepIn K (.ref f_common_form) = true)
    (a_gathered : PySem.W.nsIn K mainGlobals "gathered" = some (some (.ref f_gathered)))
    (l_gathered : K.lookup f_gathered = some ⟨oc_gathered, od_gathered, .func (PySem.W.fnOf "gathered" "gathered" (defArgs s_gathered) (defBody s_gathered) (defScope s_gathered) .none kV_gathered dc_gathered pm_gathered an_gathered cd_gathered ct_gathered), sl_gathered⟩)
    (c_gathered_ : PySem.W.codeIn K cd_gathered "gathered" = true)
    (k_gathered : PySem.W.keepIn K (.ref f_gathered) = true)
    (a_StayError : PySem.W.nsIn K mainGlobals "StayError" = some (some (.ref c_StayError)))
    (a_BadDays : PySem.W.nsIn K mainGlobals "BadDays" = some (some (.ref c_BadDays)))
    (h_BadDays_l : K.lookup c_BadDays = some (excClassObj nm_BadDays q_BadDays c_BadDays N_BadDays bs_BadDays bm_BadDays true sn_BadDays sub_BadDays ab_BadDays col_BadDays dd_BadDays m0_BadDays m1_BadDays m2_BadDays m3_BadDays m5_BadDays "ValueError.__new__"))
    (h_BadDays_bm : PySem.HandSPX.refsVE bm_BadDays = true)
    (h_BadDays_sa : PySem.W.findIn K (.ref c_BadDays) "__setattr__" = some (some (.builtin "object.__setattr__")))
    (h_BadDays_ex : PySem.W.subIn K (.ref c_BadDays) (.type "BaseException") = some true)
    (h_BadDays_ty : PySem.W.typeIn K (.ref c_BadDays) = some (.type "type"))
    (h_BadDays_kp : PySem.W.keepIn K (.ref c_BadDays) = true)
    (h_BadDays_ga : PySem.W.findIn K (.ref c_BadDays) "__getattribute__" = some (some (.builtin "BaseException.__getattribute__")))
    (h_BadDays_gg : PySem.W.findIn K (.ref c_BadDays) "__getattr__" = some none)
    (h_BadDays_hd : PySem.W.hasDictIn K c_BadDays = true)
    (h_BadDays_cls : PySem.W.findIn K (.ref c_BadDays) "__class__" = some (some (.builtin "object.__class__")))
    (h_BadDays_mro : PySem.W.mroIn K c_BadDays (.type "object") = some true)
    (h_cget : PySem.W.specialIn K (.builtin "object.__class__") "__get__" = some (some (.builtin "getset_descriptor.__get__")))
    (h_ctak : PySem.W.takesIn K (.builtin "object.__class__") = some true)
    (h_nx_BadDays_part : PySem.W.findIn K (.ref c_BadDays) "part" = some none)
    (a_BadDays___init__ : PySem.W.findIn K (.ref c_BadDays) "__init__" = some (some (.ref f_BadDays___init__)))
    (i_BadDays___init__ : PySem.W.isFn K (.ref f_BadDays___init__) = true)
    (l_BadDays___init__ : K.lookup f_BadDays___init__ = some ⟨oc_BadDays___init__, od_BadDays___init__, .func (PySem.W.fnOf "__init__" "BadDays.__init__" (defArgs s_BadDays___init__) (defBody s_BadDays___init__) (defScope s_BadDays___init__) .none kV_BadDays___init__ dc_BadDays___init__ pm_BadDays___init__ an_BadDays___init__ cd_BadDays___init__ ct_BadDays___init__), sl_BadDays___init__⟩)
    (c_BadDays___init___ : PySem.W.codeIn K cd_BadDays___init__ "BadDays.__init__" = true)
    (k_BadDays___init__ : PySem.W.keepIn K (.ref f_BadDays___init__) = true)
    (t_BadDays___init__ : PySem.W.typeIn K (.ref f_BadDays___init__) = some (.type "function"))
    (a_BadStay : PySem.W.nsIn K mainGlobals "BadStay" = some (some (.ref c_BadStay)))
    (h_BadStay_l : K.lookup c_BadStay = some (excClassObj nm_BadStay q_BadStay c_BadStay N_BadStay bs_BadStay bm_BadStay true sn_BadStay sub_BadStay ab_BadStay col_BadStay dd_BadStay m0_BadStay m1_BadStay m2_BadStay m3_BadStay m5_BadStay "ValueError.__new__"))
    (h_BadStay_bm : PySem.HandSPX.refsVE bm_BadStay = true)
    (h_BadStay_sa : PySem.W.findIn K (.ref c_BadStay) "__setattr__" = some (some (.builtin "object.__setattr__")))
    (h_BadStay_ex : PySem.W.subIn K (.ref c_BadStay) (.type "BaseException") = some true)
    (h_BadStay_ty : PySem.W.typeIn K (.ref c_BadStay) = some (.type "type"))
    (h_BadStay_kp : PySem.W.keepIn K (.ref c_BadStay) = true)
    (h_BadStay_ga : PySem.W.findIn K (.ref c_BadStay) "__getattribute__" = some (some (.builtin "BaseException.__getattribute__")))
    (h_BadStay_gg : PySem.W.findIn K (.ref c_BadStay) "__getattr__" = some none)
    (h_BadStay_hd : PySem.W.hasDictIn K c_BadStay = true)
    (h_BadStay_cls : PySem.W.findIn K (.ref c_BadStay) "__class__" = some (some (.builtin "object.__class__")))
    (h_BadStay_mro : PySem.W.mroIn K c_BadStay (.type "object") = some true)
    (h_nx_BadStay_part : PySem.W.findIn K (.ref c_BadStay) "part" = some none)
    (a_BadStay___init__ : PySem.W.findIn K (.ref c_BadStay) "__init__" = some (some (.ref f_BadStay___init__)))
    (i_BadStay___init__ : PySem.W.isFn K (.ref f_BadStay___init__) = true)
    (l_BadStay___init__ : K.lookup f_BadStay___init__ = some ⟨oc_BadStay___init__, od_BadStay___init__, .func (PySem.W.fnOf "__init__" "BadStay.__init__" (defArgs s_BadStay___init__) (defBody s_BadStay___init__) (defScope s_BadStay___init__) .none kV_BadStay___init__ dc_BadStay___init__ pm_BadStay___init__ an_BadStay___init__ cd_BadStay___init__ ct_BadStay___init__), sl_BadStay___init__⟩)
    (c_BadStay___init___ : PySem.W.codeIn K cd_BadStay___init__ "BadStay.__init__" = true)
    (k_BadStay___init__ : PySem.W.keepIn K (.ref f_BadStay___init__) = true)
    (t_BadStay___init__ : PySem.W.typeIn K (.ref f_BadStay___init__) = some (.type "function"))
    (a_TooMany : PySem.W.nsIn K mainGlobals "TooMany" = some (some (.ref c_TooMany)))
    (h_TooMany_l : K.lookup c_TooMany = some (excClassObj nm_TooMany q_TooMany c_TooMany N_TooMany bs_TooMany bm_TooMany true sn_TooMany sub_TooMany ab_TooMany col_TooMany dd_TooMany m0_TooMany m1_TooMany m2_TooMany m3_TooMany m5_TooMany "ValueError.__new__"))
    (h_TooMany_bm : PySem.HandSPX.refsVE bm_TooMany = true)
    (h_TooMany_sa : PySem.W.findIn K (.ref c_TooMany) "__setattr__" = some (some (.builtin "object.__setattr__")))
    (h_TooMany_ex : PySem.W.subIn K (.ref c_TooMany) (.type "BaseException") = some true)
    (h_TooMany_ty : PySem.W.typeIn K (.ref c_TooMany) = some (.type "type"))
    (h_TooMany_kp : PySem.W.keepIn K (.ref c_TooMany) = true)
    (h_TooMany_ga : PySem.W.findIn K (.ref c_TooMany) "__getattribute__" = some (some (.builtin "BaseException.__getattribute__")))
    (h_TooMany_gg : PySem.W.findIn K (.ref c_TooMany) "__getattr__" = some none)
    (h_TooMany_hd : PySem.W.hasDictIn K c_TooMany = true)
    (h_TooMany_cls : PySem.W.findIn K (.ref c_TooMany) "__class__" = some (some (.builtin "object.__class__")))
    (h_TooMany_mro : PySem.W.mroIn K c_TooMany (.type "object") = some true)
    (h_nx_TooMany_what : PySem.W.findIn K (.ref c_TooMany) "what" = some none)
    (h_nx_TooMany_most : PySem.W.findIn K (.ref c_TooMany) "most" = some none)
    (a_TooMany___init__ : PySem.W.findIn K (.ref c_TooMany) "__init__" = some (some (.ref f_TooMany___init__)))
    (i_TooMany___init__ : PySem.W.isFn K (.ref f_TooMany___init__) = true)
    (l_TooMany___init__ : K.lookup f_TooMany___init__ = some ⟨oc_TooMany___init__, od_TooMany___init__, .func (PySem.W.fnOf "__init__" "TooMany.__init__" (defArgs s_TooMany___init__) (defBody s_TooMany___init__) (defScope s_TooMany___init__) .none kV_TooMany___init__ dc_TooMany___init__ pm_TooMany___init__ an_TooMany___init__ cd_TooMany___init__ ct_TooMany___init__), sl_TooMany___init__⟩)
    (c_TooMany___init___ : PySem.W.codeIn K cd_TooMany___init__ "TooMany.__init__" = true)
    (k_TooMany___init__ : PySem.W.keepIn K (.ref f_TooMany___init__) = true)
    (t_TooMany___init__ : PySem.W.typeIn K (.ref f_TooMany___init__) = some (.type "function"))
    (a_Days : PySem.W.nsIn K mainGlobals "Days" = some (some (.ref c_Days)))
    (h_Days_pg : PySem.W.plainGet K c_Days Str.empty = true)
    (h_Days_hd : PySem.W.hasDictIn K c_Days = true)
    (h_Days_po : PySem.W.plainOver K c_Days = true)
    (h_Days_sa : PySem.W.findIn K (.ref c_Days) "__setattr__" = some (some (.builtin "object.__setattr__")))
    (h_Days_cls : PySem.W.findIn K (.ref c_Days) "__class__" = some (some (.builtin "object.__class__")))
    (h_Days_get : PySem.W.specialIn K (.builtin "object.__class__") "__get__" = some (some (.builtin "getset_descriptor.__get__")))
    (h_Days_tak : PySem.W.takesIn K (.builtin "object.__class__") = some true)
    (h_Days_mro : PySem.W.mroIn K c_Days (.type "object") = some true)
    (h_na_Days__period : PySem.W.findIn K (.ref c_Days) "_period" = some none)
    (h_na_Days__rests : PySem.W.findIn K (.ref c_Days) "_rests" = some none)
    (h_Days_mk : PySem.W.makesIn K c_Days = true)
    (h_Days_kp : PySem.W.keepIn K (.ref c_Days) = true)
    (a_Days___init__ : PySem.W.findIn K (.ref c_Days) "__init__" = some (some (.ref f_Days___init__)))
    (i_Days___init__ : PySem.W.isFn K (.ref f_Days___init__) = true)
    (l_Days___init__ : K.lookup f_Days___init__ = some ⟨oc_Days___init__, od_Days___init__, .func (PySem.W.fnOf "__init__" "Days.__init__" (defArgs s_Days___init__) (defBody s_Days___init__) (defScope s_Days___init__) .none kV_Days___init__ dc_Days___init__ pm_Days___init__ an_Days___init__ cd_Days___init__ ct_Days___init__), sl_Days___init__⟩)
    (c_Days___init___ : PySem.W.codeIn K cd_Days___init__ "Days.__init__" = true)
    (k_Days___init__ : PySem.W.keepIn K (.ref f_Days___init__) = true)
    (a_Days___eq__ : PySem.W.findIn K (.ref c_Days) "__eq__" = some (some (.ref f_Days___eq__)))
    (i_Days___eq__ : PySem.W.isFn K (.ref f_Days___eq__) = true)
    (l_Days___eq__ : K.lookup f_Days___eq__ = some ⟨oc_Days___eq__, od_Days___eq__, .func (PySem.W.fnOf "__eq__" "Days.__eq__" (defArgs s_Days___eq__) (defBody s_Days___eq__) (defScope s_Days___eq__) .none kV_Days___eq__ dc_Days___eq__ pm_Days___eq__ an_Days___eq__ cd_Days___eq__ ct_Days___eq__), sl_Days___eq__⟩)
    (c_Days___eq___ : PySem.W.codeIn K cd_Days___eq__ "Days.__eq__" = true)
    (k_Days___eq__ : PySem.W.keepIn K (.ref f_Days___eq__) = true)
    (a_Days___contains__ : PySem.W.findIn K (.ref c_Days) "__contains__" = some (some (.ref f_Days___contains__)))
    (i_Days___contains__ : PySem.W.isFn K (.ref f_Days___contains__) = true)
    (l_Days___contains__ : K.lookup f_Days___contains__ = some ⟨oc_Days___contains__, od_Days___contains__, .func (PySem.W.fnOf "__contains__" "Days.__contains__" (defArgs s_Days___contains__) (defBody s_Days___contains__) (defScope s_Days___contains__) .none kV_Days___contains__ dc_Days___contains__ pm_Days___contains__ an_Days___contains__ cd_Days___contains__ ct_Days___contains__), sl_Days___contains__⟩)
    (c_Days___contains___ : PySem.W.codeIn K cd_Days___contains__ "Days.__contains__" = true)
    (k_Days___contains__ : PySem.W.keepIn K (.ref f_Days___contains__) = true)
    (a_Days___and__ : PySem.W.findIn K (.ref c_Days) "__and__" = some (some (.ref f_Days___and__)))
    (i_Days___and__ : PySem.W.isFn K (.ref f_Days___and__) = true)
    (l_Days___and__ : K.lookup f_Days___and__ = some ⟨oc_Days___and__, od_Days___and__, .func (PySem.W.fnOf "__and__" "Days.__and__" (defArgs s_Days___and__) (defBody s_Days___and__) (defScope s_Days___and__) .none kV_Days___and__ dc_Days___and__ pm_Days___and__ an_Days___and__ cd_Days___and__ ct_Days___and__), sl_Days___and__⟩)
    (c_Days___and___ : PySem.W.codeIn K cd_Days___and__ "Days.__and__" = true)
    (k_Days___and__ : PySem.W.keepIn K (.ref f_Days___and__) = true)
    (a_Days___or__ : PySem.W.findIn K (.ref c_Days) "__or__" = some (some (.ref f_Days___or__)))
    (i_Days___or__ : PySem.W.isFn K (.ref f_Days___or__) = true)
    (l_Days___or__ : K.lookup f_Days___or__ = some ⟨oc_Days___or__, od_Days___or__, .func (PySem.W.fnOf "__or__" "Days.__or__" (defArgs s_Days___or__) (defBody s_Days___or__) (defScope s_Days___or__) .none kV_Days___or__ dc_Days___or__ pm_Days___or__ an_Days___or__ cd_Days___or__ ct_Days___or__), sl_Days___or__⟩)
    (c_Days___or___ : PySem.W.codeIn K cd_Days___or__ "Days.__or__" = true)
    (k_Days___or__ : PySem.W.keepIn K (.ref f_Days___or__) = true)
    (a_Days___sub__ : PySem.W.findIn K (.ref c_Days) "__sub__" = some (some (.ref f_Days___sub__)))
    (i_Days___sub__ : PySem.W.isFn K (.ref f_Days___sub__) = true)
    (l_Days___sub__ : K.lookup f_Days___sub__ = some ⟨oc_Days___sub__, od_Days___sub__, .func (PySem.W.fnOf "__sub__" "Days.__sub__" (defArgs s_Days___sub__) (defBody s_Days___sub__) (defScope s_Days___sub__) .none kV_Days___sub__ dc_Days___sub__ pm_Days___sub__ an_Days___sub__ cd_Days___sub__ ct_Days___sub__), sl_Days___sub__⟩)
    (c_Days___sub___ : PySem.W.codeIn K cd_Days___sub__ "Days.__sub__" = true)
    (k_Days___sub__ : PySem.W.keepIn K (.ref f_Days___sub__) = true)
    (a_Days___invert__ : PySem.W.findIn K (.ref c_Days) "__invert__" = some (some (.ref f_Days___invert__)))
    (i_Days___invert__ : PySem.W.isFn K (.ref f_Days___invert__) = true)
    (l_Days___invert__ : K.lookup f_Days___invert__ = some ⟨oc_Days___invert__, od_Days___invert__, .func (PySem.W.fnOf "__invert__" "Days.__invert__" (defArgs s_Days___invert__) (defBody s_Days___invert__) (defScope s_Days___invert__) .none kV_Days___invert__ dc_Days___invert__ pm_Days___invert__ an_Days___invert__ cd_Days___invert__ ct_Days___invert__), sl_Days___invert__⟩)
    (c_Days___invert___ : PySem.W.codeIn K cd_Days___invert__ "Days.__invert__" = true)
    (k_Days___invert__ : PySem.W.keepIn K (.ref f_Days___invert__) = true)
    (a_Days___rshift__ : PySem.W.findIn K (.ref c_Days) "__rshift__" = some (some (.ref f_Days___rshift__)))
    (i_Days___rshift__ : PySem.W.isFn K (.ref f_Days___rshift__) = true)
    (l_Days___rshift__ : K.lookup f_Days___rshift__ = some ⟨oc_Days___rshift__, od_Days___rshift__, .func (PySem.W.fnOf "__rshift__" "Days.__rshift__" (defArgs s_Days___rshift__) (defBody s_Days___rshift__) (defScope s_Days___rshift__) .none kV_Days___rshift__ dc_Days___rshift__ pm_Days___rshift__ an_Days___rshift__ cd_Days___rshift__ ct_Days___rshift__), sl_Days___rshift__⟩)
    (c_Days___rshift___ : PySem.W.codeIn K cd_Days___rshift__ "Days.__rshift__" = true)
    (k_Days___rshift__ : PySem.W.keepIn K (.ref f_Days___rshift__) = true)
    (a_Days___lshift__ : PySem.W.findIn K (.ref c_Days) "__lshift__" = some (some (.ref f_Days___lshift__)))
    (i_Days___lshift__ : PySem.W.isFn K (.ref f_Days___lshift__) = true)
    (l_Days___lshift__ : K.lookup f_Days___lshift__ = some ⟨oc_Days___lshift__, od_Days___lshift__, .func (PySem.W.fnOf "__lshift__" "Days.__lshift__" (defArgs s_Days___lshift__) (defBody s_Days___lshift__) (defScope s_Days___lshift__) .none kV_Days___lshift__ dc_Days___lshift__ pm_Days___lshift__ an_Days___lshift__ cd_Days___lshift__ ct_Days___lshift__), sl_Days___lshift__⟩)
    (c_Days___lshift___ : PySem.W.codeIn K cd_Days___lshift__ "Days.__lshift__" = true)
    (k_Days___lshift__ : PySem.W.keepIn K (.ref f_Days___lshift__) = true)
    (a_Days___le__ : PySem.W.findIn K (.ref c_Days) "__le__" = some (some (.ref f_Days___le__)))
    (i_Days___le__ : PySem.W.isFn K (.ref f_Days___le__) = true)
    (l_Days___le__ : K.lookup f_Days___le__ = some ⟨oc_Days___le__, od_Days___le__, .func (PySem.W.fnOf "__le__" "Days.__le__" (defArgs s_Days___le__) (defBody s_Days___le__) (defScope s_Days___le__) .none kV_Days___le__ dc_Days___le__ pm_Days___le__ an_Days___le__ cd_Days___le__ ct_Days___le__), sl_Days___le__⟩)
    (c_Days___le___ : PySem.W.codeIn K cd_Days___le__ "Days.__le__" = true)
    (k_Days___le__ : PySem.W.keepIn K (.ref f_Days___le__) = true)
    (a_Days_following : PySem.W.findIn K (.ref c_Days) "following" = some (some (.ref f_Days_following)))
    (i_Days_following : PySem.W.isFn K (.ref f_Days_following) = true)
    (l_Days_following : K.lookup f_Days_following = some ⟨oc_Days_following, od_Days_following, .func (PySem.W.fnOf "following" "Days.following" (defArgs s_Days_following) (defBody s_Days_following) (defScope s_Days_following) .none kV_Days_following dc_Days_following pm_Days_following an_Days_following cd_Days_following ct_Days_following), sl_Days_following⟩)
    (c_Days_following_ : PySem.W.codeIn K cd_Days_following "Days.following" = true)
    (k_Days_following : PySem.W.keepIn K (.ref f_Days_following) = true)
    (h_Days_ne : PySem.W.findIn K (.ref c_Days) "__ne__" = some (some (.builtin "object.__ne__")))
    (h_Days_sf : PySem.W.selfFirst K c_Days = true)
    (h_Days_rand : PySem.W.findIn K (.ref c_Days) "__rand__" = some none)
    (h_Days_iand : PySem.W.findIn K (.ref c_Days) "__iand__" = some none)
    (h_Days_cd : PySem.W.clsIn K c_Days = some cd_Days)
    (h_Days_cm : cd_Days.mro = [.ref c_Days, .type "object"])
    (h_Days_ror : PySem.W.findIn K (.ref c_Days) "__ror__" = some none)
    (h_Days_ior : PySem.W.findIn K (.ref c_Days) "__ior__" = some none)
    (h_Days_rsub : PySem.W.findIn K (.ref c_Days) "__rsub__" = some none)
    (h_Days_isub : PySem.W.findIn K (.ref c_Days) "__isub__" = some none)
    (h_Days_rrshift : PySem.W.findIn K (.ref c_Days) "__rrshift__" = some none)
    (h_Days_rlshift : PySem.W.findIn K (.ref c_Days) "__rlshift__" = some none)
    (h_Days_rd : PySem.W.readsIn K c_Days (.type "type") = true)
    (h_Days_tg : PySem.W.specialIn K (.ref c_Days) "__getattribute__" = some (some (.builtin "type.__getattribute__")))
    (ca_Days_none : PySem.W.findCls K (.ref c_Days) (.type "type") "none" = some (.get (.builtin "staticmethod.__get__") (.ref p_Days_none) .none (.ref c_Days)))
    (cr_Days_none : PySem.W.recIn K p_Days_none "staticmethod" = some (.ref f_Days_none :: rest_Days_none))
    (l_Days_none : K.lookup f_Days_none = some ⟨oc_Days_none, od_Days_none, .func (PySem.W.fnOf "none" "Days.none" (defArgs s_Days_none) (defBody s_Days_none) (defScope s_Days_none) .none kV_Days_none dc_Days_none pm_Days_none an_Days_none cd_Days_none ct_Days_none), sl_Days_none⟩)
    (c_Days_none_ : PySem.W.codeIn K cd_Days_none "Days.none" = true)
    (k_Days_none : PySem.W.keepIn K (.ref f_Days_none) = true)
    (pa_Days_period : PySem.W.findIn K (.ref c_Days) "period" = some (some (.ref p_Days_period)))
    (pg_Days_period : PySem.W.specialIn K (.ref p_Days_period) "__get__" = some (some (.builtin "property.__get__")))
    (pt_Days_period : PySem.W.takesIn K (.ref p_Days_period) = some true)
    (pr_Days_period : PySem.W.recIn K p_Days_period "property" = some (.ref f_Days_period :: rest_Days_period))
    (l_Days_period : K.lookup f_Days_period = some ⟨oc_Days_period, od_Days_period, .func (PySem.W.fnOf "period" "Days.period" (defArgs s_Days_period) (defBody s_Days_period) (defScope s_Days_period) .none kV_Days_period dc_Days_period pm_Days_period an_Days_period cd_Days_period ct_Days_period), sl_Days_period⟩)
    (c_Days_period_ : PySem.W.codeIn K cd_Days_period "Days.period" = true)
    (k_Days_period : PySem.W.keepIn K (.ref f_Days_period) = true)
    (a_Stay : PySem.W.nsIn K mainGlobals "Stay" = some (some (.ref c_Stay)))
    (h_Stay_pg : PySem.W.plainGet K c_Stay Str.empty = true)
    (h_Stay_hd : PySem.W.hasDictIn K c_Stay = true)
    (h_Stay_po : PySem.W.plainOver K c_Stay = true)
    (h_Stay_sa : PySem.W.findIn K (.ref c_Stay) "__setattr__" = some (some (.builtin "object.__setattr__")))
    (h_Stay_cls : PySem.W.findIn K (.ref c_Stay) "__class__" = some (some (.builtin "object.__class__")))
    (h_Stay_get : PySem.W.specialIn K (.builtin "object.__class__") "__get__" = some (some (.builtin "getset_descriptor.__get__")))
    (h_Stay_tak : PySem.W.takesIn K (.builtin "object.__class__") = some true)
    (h_Stay_mro : PySem.W.mroIn K c_Stay (.type "object") = some true)
    (h_na_Stay_first : PySem.W.findIn K (.ref c_Stay) "first" = some none)
    (h_na_Stay_after : PySem.W.findIn K (.ref c_Stay) "after" = some none)
    (h_na_Stay__nights : PySem.W.findIn K (.ref c_Stay) "_nights" = some none)
    (h_Stay_mk : PySem.W.makesIn K c_Stay = true)
    (h_Stay_kp : PySem.W.keepIn K (.ref c_Stay) = true)
    (a_Stay___init__ : PySem.W.findIn K (.ref c_Stay) "__init__" = some (some (.ref f_Stay___init__)))
    (i_Stay___init__ : PySem.W.isFn K (.ref f_Stay___init__) = true)
    (l_Stay___init__ : K.lookup f_Stay___init__ = some ⟨oc_Stay___init__, od_Stay___init__, .func (PySem.W.fnOf "__init__" "Stay.__init__" (defArgs s_Stay___init__) (defBody s_Stay___init__) (defScope s_Stay___init__) .none kV_Stay___init__ dc_Stay___init__ pm_Stay___init__ an_Stay___init__ cd_Stay___init__ ct_Stay___init__), sl_Stay___init__⟩)
    (c_Stay___init___ : PySem.W.codeIn K cd_Stay___init__ "Stay.__init__" = true)
    (k_Stay___init__ : PySem.W.keepIn K (.ref f_Stay___init__) = true)
    (a_Stay___len__ : PySem.W.findIn K (.ref c_Stay) "__len__" = some (some (.ref f_Stay___len__)))
    (i_Stay___len__ : PySem.W.isFn K (.ref f_Stay___len__) = true)
    (l_Stay___len__ : K.lookup f_Stay___len__ = some ⟨oc_Stay___len__, od_Stay___len__, .func (PySem.W.fnOf "__len__" "Stay.__len__" (defArgs s_Stay___len__) (defBody s_Stay___len__) (defScope s_Stay___len__) .none kV_Stay___len__ dc_Stay___len__ pm_Stay___len__ an_Stay___len__ cd_Stay___len__ ct_Stay___len__), sl_Stay___len__⟩)
    (c_Stay___len___ : PySem.W.codeIn K cd_Stay___len__ "Stay.__len__" = true)
    (k_Stay___len__ : PySem.W.keepIn K (.ref f_Stay___len__) = true)
    (a_Stay___iter__ : PySem.W.findIn K (.ref c_Stay) "__iter__" = some (some (.ref f_Stay___iter__)))
    (i_Stay___iter__ : PySem.W.isFn K (.ref f_Stay___iter__) = true)
    (l_Stay___iter__ : K.lookup f_Stay___iter__ = some ⟨oc_Stay___iter__, od_Stay___iter__, .func (PySem.W.fnOf "__iter__" "Stay.__iter__" (defArgs s_Stay___iter__) (defBody s_Stay___iter__) (defScope s_Stay___iter__) .none kV_Stay___iter__ dc_Stay___iter__ pm_Stay___iter__ an_Stay___iter__ cd_Stay___iter__ ct_Stay___iter__), sl_Stay___iter__⟩)
    (c_Stay___iter___ : PySem.W.codeIn K cd_Stay___iter__ "Stay.__iter__" = true)
    (k_Stay___iter__ : PySem.W.keepIn K (.ref f_Stay___iter__) = true)
    (a_Stay___rshift__ : PySem.W.findIn K (.ref c_Stay) "__rshift__" = some (some (.ref f_Stay___rshift__)))
    (i_Stay___rshift__ : PySem.W.isFn K (.ref f_Stay___rshift__) = true)
    (l_Stay___rshift__ : K.lookup f_Stay___rshift__ = some ⟨oc_Stay___rshift__, od_Stay___rshift__, .func (PySem.W.fnOf "__rshift__" "Stay.__rshift__" (defArgs s_Stay___rshift__) (defBody s_Stay___rshift__) (defScope s_Stay___rshift__) .none kV_Stay___rshift__ dc_Stay___rshift__ pm_Stay___rshift__ an_Stay___rshift__ cd_Stay___rshift__ ct_Stay___rshift__), sl_Stay___rshift__⟩)
    (c_Stay___rshift___ : PySem.W.codeIn K cd_Stay___rshift__ "Stay.__rshift__" = true)
    (k_Stay___rshift__ : PySem.W.keepIn K (.ref f_Stay___rshift__) = true)
    (a_Stay___lshift__ : PySem.W.findIn K (.ref c_Stay) "__lshift__" = some (some (.ref f_Stay___lshift__)))
    (i_Stay___lshift__ : PySem.W.isFn K (.ref f_Stay___lshift__) = true)
    (l_Stay___lshift__ : K.lookup f_Stay___lshift__ = some ⟨oc_Stay___lshift__, od_Stay___lshift__, .func (PySem.W.fnOf "__lshift__" "Stay.__lshift__" (defArgs s_Stay___lshift__) (defBody s_Stay___lshift__) (defScope s_Stay___lshift__) .none kV_Stay___lshift__ dc_Stay___lshift__ pm_Stay___lshift__ an_Stay___lshift__ cd_Stay___lshift__ ct_Stay___lshift__), sl_Stay___lshift__⟩)
    (c_Stay___lshift___ : PySem.W.codeIn K cd_Stay___lshift__ "Stay.__lshift__" = true)
    (k_Stay___lshift__ : PySem.W.keepIn K (.ref f_Stay___lshift__) = true)
    (a_Stay___floordiv__ : PySem.W.findIn K (.ref c_Stay) "__floordiv__" = some (some (.ref f_Stay___floordiv__)))
    (i_Stay___floordiv__ : PySem.W.isFn K (.ref f_Stay___floordiv__) = true)
    (l_Stay___floordiv__ : K.lookup f_Stay___floordiv__ = some ⟨oc_Stay___floordiv__, od_Stay___floordiv__, .func (PySem.W.fnOf "__floordiv__" "Stay.__floordiv__" (defArgs s_Stay___floordiv__) (defBody s_Stay___floordiv__) (defScope s_Stay___floordiv__) .none kV_Stay___floordiv__ dc_Stay___floordiv__ pm_Stay___floordiv__ an_Stay___floordiv__ cd_Stay___floordiv__ ct_Stay___floordiv__), sl_Stay___floordiv__⟩)
    (c_Stay___floordiv___ : PySem.W.codeIn K cd_Stay___floordiv__ "Stay.__floordiv__" = true)
    (k_Stay___floordiv__ : PySem.W.keepIn K (.ref f_Stay___floordiv__) = true)
    (a_Stay_meets : PySem.W.findIn K (.ref c_Stay) "meets" = some (some (.ref f_Stay_meets)))
    (i_Stay_meets : PySem.W.isFn K (.ref f_Stay_meets) = true)
    (l_Stay_meets : K.lookup f_Stay_meets = some ⟨oc_Stay_meets, od_Stay_meets, .func (PySem.W.fnOf "meets" "Stay.meets" (defArgs s_Stay_meets) (defBody s_Stay_meets) (defScope s_Stay_meets) .none kV_Stay_meets dc_Stay_meets pm_Stay_meets an_Stay_meets cd_Stay_meets ct_Stay_meets), sl_Stay_meets⟩)
    (c_Stay_meets_ : PySem.W.codeIn K cd_Stay_meets "Stay.meets" = true)
    (k_Stay_meets : PySem.W.keepIn K (.ref f_Stay_meets) = true)
    (h_Stay_sf : PySem.W.selfFirst K c_Stay = true)
    (h_Stay_rrshift : PySem.W.findIn K (.ref c_Stay) "__rrshift__" = some none)
    (h_Stay_rlshift : PySem.W.findIn K (.ref c_Stay) "__rlshift__" = some none)
    (h_Stay_rfloordiv : PySem.W.findIn K (.ref c_Stay) "__rfloordiv__" = some none)
    (a_Lengths : PySem.W.nsIn K mainGlobals "Lengths" = some (some (.ref c_Lengths)))
    (h_Lengths_pg : PySem.W.plainGet K c_Lengths Str.empty = true)
    (h_Lengths_hd : PySem.W.hasDictIn K c_Lengths = true)
    (h_Lengths_po : PySem.W.plainOver K c_Lengths = true)
    (h_Lengths_sa : PySem.W.findIn K (.ref c_Lengths) "__setattr__" = some (some (.builtin "object.__setattr__")))
    (h_Lengths_cls : PySem.W.findIn K (.ref c_Lengths) "__class__" = some (some (.builtin "object.__class__")))
    (h_Lengths_get : PySem.W.specialIn K (.builtin "object.__class__") "__get__" = some (some (.builtin "getset_descriptor.__get__")))
    (h_Lengths_tak : PySem.W.takesIn K (.builtin "object.__class__") = some true)
    (h_Lengths_mro : PySem.W.mroIn K c_Lengths (.type "object") = some true)
    (h_na_Lengths__start : PySem.W.findIn K (.ref c_Lengths) "_start" = some none)
    (h_na_Lengths__period : PySem.W.findIn K (.ref c_Lengths) "_period" = some none)
    (h_na_Lengths__low : PySem.W.findIn K (.ref c_Lengths) "_low" = some none)
    (h_na_Lengths__rests : PySem.W.findIn K (.ref c_Lengths) "_rests" = some none)
    (h_na_Lengths__marks : PySem.W.findIn K (.ref c_Lengths) "_marks" = some none)
    (h_Lengths_mk : PySem.W.makesIn K c_Lengths = true)
    (h_Lengths_kp : PySem.W.keepIn K (.ref c_Lengths) = true)
    (a_Lengths___init__ : PySem.W.findIn K (.ref c_Lengths) "__init__" = some (some (.ref f_Lengths___init__)))
    (i_Lengths___init__ : PySem.W.isFn K (.ref f_Lengths___init__) = true)
    (l_Lengths___init__ : K.lookup f_Lengths___init__ = some ⟨oc_Lengths___init__, od_Lengths___init__, .func (PySem.W.fnOf "__init__" "Lengths.__init__" (defArgs s_Lengths___init__) (defBody s_Lengths___init__) (defScope s_Lengths___init__) (.ref dt_Lengths___init__) kV_Lengths___init__ dc_Lengths___init__ pm_Lengths___init__ an_Lengths___init__ cd_Lengths___init__ ct_Lengths___init__), sl_Lengths___init__⟩)
    (c_Lengths___init___ : PySem.W.codeIn K cd_Lengths___init__ "Lengths.__init__" = true)
    (k_Lengths___init__ : PySem.W.keepIn K (.ref f_Lengths___init__) = true)
    (lt_Lengths___init__ : K.lookup dt_Lengths___init__ = some ⟨.type "tuple", ot_Lengths___init__, .seq #[.ref dl_Lengths___init__, .int 1 tk_Lengths___init__, .ref dr_Lengths___init__] nt_Lengths___init__, st_Lengths___init__⟩)
    (ldl_Lengths___init__ : K.lookup dl_Lengths___init__ = some ⟨.type "tuple", odl_Lengths___init__, .seq #[] ndl_Lengths___init__, sdl_Lengths___init__⟩)
    (ldr_Lengths___init__ : K.lookup dr_Lengths___init__ = some ⟨.type "tuple", odr_Lengths___init__, .seq #[] ndr_Lengths___init__, sdr_Lengths___init__⟩)
    (a_Lengths___eq__ : PySem.W.findIn K (.ref c_Lengths) "__eq__" = some (some (.ref f_Lengths___eq__)))
    (i_Lengths___eq__ : PySem.W.isFn K (.ref f_Lengths___eq__) = true)
    (l_Lengths___eq__ : K.lookup f_Lengths___eq__ = some ⟨oc_Lengths___eq__, od_Lengths___eq__, .func (PySem.W.fnOf "__eq__" "Lengths.__eq__" (defArgs s_Lengths___eq__) (defBody s_Lengths___eq__) (defScope s_Lengths___eq__) .none kV_Lengths___eq__ dc_Lengths___eq__ pm_Lengths___eq__ an_Lengths___eq__ cd_Lengths___eq__ ct_Lengths___eq__), sl_Lengths___eq__⟩)
    (c_Lengths___eq___ : PySem.W.codeIn K cd_Lengths___eq__ "Lengths.__eq__" = true)
    (k_Lengths___eq__ : PySem.W.keepIn K (.ref f_Lengths___eq__) = true)
    (a_Lengths___contains__ : PySem.W.findIn K (.ref c_Lengths) "__contains__" = some (some (.ref f_Lengths___contains__)))
    (i_Lengths___contains__ : PySem.W.isFn K (.ref f_Lengths___contains__) = true)
    (l_Lengths___contains__ : K.lookup f_Lengths___contains__ = some ⟨oc_Lengths___contains__, od_Lengths___contains__, .func (PySem.W.fnOf "__contains__" "Lengths.__contains__" (defArgs s_Lengths___contains__) (defBody s_Lengths___contains__) (defScope s_Lengths___contains__) .none kV_Lengths___contains__ dc_Lengths___contains__ pm_Lengths___contains__ an_Lengths___contains__ cd_Lengths___contains__ ct_Lengths___contains__), sl_Lengths___contains__⟩)
    (c_Lengths___contains___ : PySem.W.codeIn K cd_Lengths___contains__ "Lengths.__contains__" = true)
    (k_Lengths___contains__ : PySem.W.keepIn K (.ref f_Lengths___contains__) = true)
    (a_Lengths___or__ : PySem.W.findIn K (.ref c_Lengths) "__or__" = some (some (.ref f_Lengths___or__)))
    (i_Lengths___or__ : PySem.W.isFn K (.ref f_Lengths___or__) = true)
    (l_Lengths___or__ : K.lookup f_Lengths___or__ = some ⟨oc_Lengths___or__, od_Lengths___or__, .func (PySem.W.fnOf "__or__" "Lengths.__or__" (defArgs s_Lengths___or__) (defBody s_Lengths___or__) (defScope s_Lengths___or__) .none kV_Lengths___or__ dc_Lengths___or__ pm_Lengths___or__ an_Lengths___or__ cd_Lengths___or__ ct_Lengths___or__), sl_Lengths___or__⟩)
    (c_Lengths___or___ : PySem.W.codeIn K cd_Lengths___or__ "Lengths.__or__" = true)
    (k_Lengths___or__ : PySem.W.keepIn K (.ref f_Lengths___or__) = true)
    (a_Lengths___sub__ : PySem.W.findIn K (.ref c_Lengths) "__sub__" = some (some (.ref f_Lengths___sub__)))
    (i_Lengths___sub__ : PySem.W.isFn K (.ref f_Lengths___sub__) = true)
    (l_Lengths___sub__ : K.lookup f_Lengths___sub__ = some ⟨oc_Lengths___sub__, od_Lengths___sub__, .func (PySem.W.fnOf "__sub__" "Lengths.__sub__" (defArgs s_Lengths___sub__) (defBody s_Lengths___sub__) (defScope s_Lengths___sub__) .none kV_Lengths___sub__ dc_Lengths___sub__ pm_Lengths___sub__ an_Lengths___sub__ cd_Lengths___sub__ ct_Lengths___sub__), sl_Lengths___sub__⟩)
    (c_Lengths___sub___ : PySem.W.codeIn K cd_Lengths___sub__ "Lengths.__sub__" = true)
    (k_Lengths___sub__ : PySem.W.keepIn K (.ref f_Lengths___sub__) = true)
    (a_Lengths_at_least : PySem.W.findIn K (.ref c_Lengths) "at_least" = some (some (.ref f_Lengths_at_least)))
    (i_Lengths_at_least : PySem.W.isFn K (.ref f_Lengths_at_least) = true)
    (l_Lengths_at_least : K.lookup f_Lengths_at_least = some ⟨oc_Lengths_at_least, od_Lengths_at_least, .func (PySem.W.fnOf "at_least" "Lengths.at_least" (defArgs s_Lengths_at_least) (defBody s_Lengths_at_least) (defScope s_Lengths_at_least) .none kV_Lengths_at_least dc_Lengths_at_least pm_Lengths_at_least an_Lengths_at_least cd_Lengths_at_least ct_Lengths_at_least), sl_Lengths_at_least⟩)
    (c_Lengths_at_least_ : PySem.W.codeIn K cd_Lengths_at_least "Lengths.at_least" = true)
    (k_Lengths_at_least : PySem.W.keepIn K (.ref f_Lengths_at_least) = true)
    (a_Lengths_below : PySem.W.findIn K (.ref c_Lengths) "below" = some (some (.ref f_Lengths_below)))
    (i_Lengths_below : PySem.W.isFn K (.ref f_Lengths_below) = true)
    (l_Lengths_below : K.lookup f_Lengths_below = some ⟨oc_Lengths_below, od_Lengths_below, .func (PySem.W.fnOf "below" "Lengths.below" (defArgs s_Lengths_below) (defBody s_Lengths_below) (defScope s_Lengths_below) .none kV_Lengths_below dc_Lengths_below pm_Lengths_below an_Lengths_below cd_Lengths_below ct_Lengths_below), sl_Lengths_below⟩)
    (c_Lengths_below_ : PySem.W.codeIn K cd_Lengths_below "Lengths.below" = true)
    (k_Lengths_below : PySem.W.keepIn K (.ref f_Lengths_below) = true)
    (h_Lengths_ne : PySem.W.findIn K (.ref c_Lengths) "__ne__" = some (some (.builtin "object.__ne__")))
    (h_Lengths_sf : PySem.W.selfFirst K c_Lengths = true)
    (h_Lengths_ror : PySem.W.findIn K (.ref c_Lengths) "__ror__" = some none)
    (h_Lengths_rsub : PySem.W.findIn K (.ref c_Lengths) "__rsub__" = some none)
    (h_Lengths_rd : PySem.W.readsIn K c_Lengths (.type "type") = true)
    (h_Lengths_tg : PySem.W.specialIn K (.ref c_Lengths) "__getattribute__" = some (some (.builtin "type.__getattribute__")))
    (ca_Lengths_none : PySem.W.findCls K (.ref c_Lengths) (.type "type") "none" = some (.get (.builtin "staticmethod.__get__") (.ref p_Lengths_none) .none (.ref c_Lengths)))
    (cr_Lengths_none : PySem.W.recIn K p_Lengths_none "staticmethod" = some (.ref f_Lengths_none :: rest_Lengths_none))
    (l_Lengths_none : K.lookup f_Lengths_none = some ⟨oc_Lengths_none, od_Lengths_none, .func (PySem.W.fnOf "none" "Lengths.none" (defArgs s_Lengths_none) (defBody s_Lengths_none) (defScope s_Lengths_none) .none kV_Lengths_none dc_Lengths_none pm_Lengths_none an_Lengths_none cd_Lengths_none ct_Lengths_none), sl_Lengths_none⟩)
    (c_Lengths_none_ : PySem.W.codeIn K cd_Lengths_none "Lengths.none" = true)
    (k_Lengths_none : PySem.W.keepIn K (.ref f_Lengths_none) = true)
    (ca_Lengths_of : PySem.W.findCls K (.ref c_Lengths) (.type "type") "of" = some (.get (.builtin "staticmethod.__get__") (.ref p_Lengths_of) .none (.ref c_Lengths)))
    (cr_Lengths_of : PySem.W.recIn K p_Lengths_of "staticmethod" = some (.ref f_Lengths_of :: rest_Lengths_of))
    (l_Lengths_of : K.lookup f_Lengths_of = some ⟨oc_Lengths_of, od_Lengths_of, .func (PySem.W.fnOf "of" "Lengths.of" (defArgs s_Lengths_of) (defBody s_Lengths_of) (defScope s_Lengths_of) .none kV_Lengths_of dc_Lengths_of pm_Lengths_of an_Lengths_of cd_Lengths_of ct_Lengths_of), sl_Lengths_of⟩)
    (c_Lengths_of_ : PySem.W.codeIn K cd_Lengths_of "Lengths.of" = true)
    (k_Lengths_of : PySem.W.keepIn K (.ref f_Lengths_of) = true)
    (ca_Lengths_since : PySem.W.findCls K (.ref c_Lengths) (.type "type") "since" = some (.get (.builtin "staticmethod.__get__") (.ref p_Lengths_since) .none (.ref c_Lengths)))
    (cr_Lengths_since : PySem.W.recIn K p_Lengths_since "staticmethod" = some (.ref f_Lengths_since :: rest_Lengths_since))
    (l_Lengths_since : K.lookup f_Lengths_since = some ⟨oc_Lengths_since, od_Lengths_since, .func (PySem.W.fnOf "since" "Lengths.since" (defArgs s_Lengths_since) (defBody s_Lengths_since) (defScope s_Lengths_since) .none kV_Lengths_since dc_Lengths_since pm_Lengths_since an_Lengths_since cd_Lengths_since ct_Lengths_since), sl_Lengths_since⟩)
    (c_Lengths_since_ : PySem.W.codeIn K cd_Lengths_since "Lengths.since" = true)
    (k_Lengths_since : PySem.W.keepIn K (.ref f_Lengths_since) = true)
    (pa_Lengths_start : PySem.W.findIn K (.ref c_Lengths) "start" = some (some (.ref p_Lengths_start)))
    (pg_Lengths_start : PySem.W.specialIn K (.ref p_Lengths_start) "__get__" = some (some (.builtin "property.__get__")))
    (pt_Lengths_start : PySem.W.takesIn K (.ref p_Lengths_start) = some true)
    (pr_Lengths_start : PySem.W.recIn K p_Lengths_start "property" = some (.ref f_Lengths_start :: rest_Lengths_start))
    (l_Lengths_start : K.lookup f_Lengths_start = some ⟨oc_Lengths_start, od_Lengths_start, .func (PySem.W.fnOf "start" "Lengths.start" (defArgs s_Lengths_start) (defBody s_Lengths_start) (defScope s_Lengths_start) .none kV_Lengths_start dc_Lengths_start pm_Lengths_start an_Lengths_start cd_Lengths_start ct_Lengths_start), sl_Lengths_start⟩)
    (c_Lengths_start_ : PySem.W.codeIn K cd_Lengths_start "Lengths.start" = true)
    (k_Lengths_start : PySem.W.keepIn K (.ref f_Lengths_start) = true)
    (pa_Lengths_period : PySem.W.findIn K (.ref c_Lengths) "period" = some (some (.ref p_Lengths_period)))
    (pg_Lengths_period : PySem.W.specialIn K (.ref p_Lengths_period) "__get__" = some (some (.builtin "property.__get__")))
    (pt_Lengths_period : PySem.W.takesIn K (.ref p_Lengths_period) = some true)
    (pr_Lengths_period : PySem.W.recIn K p_Lengths_period "property" = some (.ref f_Lengths_period :: rest_Lengths_period))
    (l_Lengths_period : K.lookup f_Lengths_period = some ⟨oc_Lengths_period, od_Lengths_period, .func (PySem.W.fnOf "period" "Lengths.period" (defArgs s_Lengths_period) (defBody s_Lengths_period) (defScope s_Lengths_period) .none kV_Lengths_period dc_Lengths_period pm_Lengths_period an_Lengths_period cd_Lengths_period ct_Lengths_period), sl_Lengths_period⟩)
    (c_Lengths_period_ : PySem.W.codeIn K cd_Lengths_period "Lengths.period" = true)
    (k_Lengths_period : PySem.W.keepIn K (.ref f_Lengths_period) = true)
    (h_kit_Days : PySem.W.kitOne K (.ref c_Days) (.ref c_Days) = some true)
    (h_kit_Lengths : PySem.W.kitOne K (.ref c_Lengths) (.ref c_Lengths) = some true)
    (h_si_Days : PySem.W.subIn K (.type "int") (.ref c_Days) = some false)
    (h_si_Stay : PySem.W.subIn K (.type "int") (.ref c_Stay) = some false)
    (a_lcm : PySem.W.nsIn K mainGlobals "lcm" = some (some (.builtin "math.lcm")))
    (a__law_pen : PySem.W.nsIn K mainGlobals "_law_pen" = some (some (.ref f__law_pen)))
    (l__law_pen : K.lookup f__law_pen = some ⟨oc__law_pen, od__law_pen, .func (PySem.W.fnOf "_law_pen" "_law_pen" (defArgs s__law_pen) (defBody s__law_pen) (defScope s__law_pen) .none kV__law_pen dc__law_pen pm__law_pen an__law_pen cd__law_pen ct__law_pen), sl__law_pen⟩)
    (c__law_pen_ : PySem.W.codeIn K cd__law_pen "_law_pen" = true)
    (k__law_pen : PySem.W.keepIn K (.ref f__law_pen) = true)
    (a__law_draw : PySem.W.nsIn K mainGlobals "_law_draw" = some (some (.ref f__law_draw)))
    (l__law_draw : K.lookup f__law_draw = some ⟨oc__law_draw, od__law_draw, .func (PySem.W.fnOf "_law_draw" "_law_draw" (defArgs s__law_draw) (defBody s__law_draw) (defScope s__law_draw) .none kV__law_draw dc__law_draw pm__law_draw an__law_draw cd__law_draw ct__law_draw), sl__law_draw⟩)
    (c__law_draw_ : PySem.W.codeIn K cd__law_draw "_law_draw" = true)
    (k__law_draw : PySem.W.keepIn K (.ref f__law_draw) = true)
    (a__law_pick : PySem.W.nsIn K mainGlobals "_law_pick" = some (some (.ref f__law_pick)))
    (l__law_pick : K.lookup f__law_pick = some ⟨oc__law_pick, od__law_pick, .func (PySem.W.fnOf "_law_pick" "_law_pick" (defArgs s__law_pick) (defBody s__law_pick) (defScope s__law_pick) .none kV__law_pick dc__law_pick pm__law_pick an__law_pick cd__law_pick ct__law_pick), sl__law_pick⟩)
    (c__law_pick_ : PySem.W.codeIn K cd__law_pick "_law_pick" = true)
    (k__law_pick : PySem.W.keepIn K (.ref f__law_pick) = true)
    (a__law_days : PySem.W.nsIn K mainGlobals "_law_days" = some (some (.ref f__law_days)))
    (l__law_days : K.lookup f__law_days = some ⟨oc__law_days, od__law_days, .func (PySem.W.fnOf "_law_days" "_law_days" (defArgs s__law_days) (defBody s__law_days) (defScope s__law_days) .none kV__law_days dc__law_days pm__law_days an__law_days cd__law_days ct__law_days), sl__law_days⟩)
    (c__law_days_ : PySem.W.codeIn K cd__law_days "_law_days" = true)
    (k__law_days : PySem.W.keepIn K (.ref f__law_days) = true)
    (a__law_many : PySem.W.nsIn K mainGlobals "_law_many" = some (some (.ref f__law_many)))
    (l__law_many : K.lookup f__law_many = some ⟨oc__law_many, od__law_many, .func (PySem.W.fnOf "_law_many" "_law_many" (defArgs s__law_many) (defBody s__law_many) (defScope s__law_many) .none kV__law_many dc__law_many pm__law_many an__law_many cd__law_many ct__law_many), sl__law_many⟩)
    (c__law_many_ : PySem.W.codeIn K cd__law_many "_law_many" = true)
    (k__law_many : PySem.W.keepIn K (.ref f__law_many) = true)
    (a__law_counts_right : PySem.W.nsIn K mainGlobals "_law_counts_right" = some (some (.ref f__law_counts_right)))
    (l__law_counts_right : K.lookup f__law_counts_right = some ⟨oc__law_counts_right, od__law_counts_right, .func (PySem.W.fnOf "_law_counts_right" "_law_counts_right" (defArgs s__law_counts_right) (defBody s__law_counts_right) (defScope s__law_counts_right) .none kV__law_counts_right dc__law_counts_right pm__law_counts_right an__law_counts_right cd__law_counts_right ct__law_counts_right), sl__law_counts_right⟩)
    (c__law_counts_right_ : PySem.W.codeIn K cd__law_counts_right "_law_counts_right" = true)
    (k__law_counts_right : PySem.W.keepIn K (.ref f__law_counts_right) = true)
    (a__law_moved_right : PySem.W.nsIn K mainGlobals "_law_moved_right" = some (some (.ref f__law_moved_right)))
    (l__law_moved_right : K.lookup f__law_moved_right = some ⟨oc__law_moved_right, od__law_moved_right, .func (PySem.W.fnOf "_law_moved_right" "_law_moved_right" (defArgs s__law_moved_right) (defBody s__law_moved_right) (defScope s__law_moved_right) .none kV__law_moved_right dc__law_moved_right pm__law_moved_right an__law_moved_right cd__law_moved_right ct__law_moved_right), sl__law_moved_right⟩)
    (c__law_moved_right_ : PySem.W.codeIn K cd__law_moved_right "_law_moved_right" = true)
    (k__law_moved_right : PySem.W.keepIn K (.ref f__law_moved_right) = true)
    (a__law_parts_right : PySem.W.nsIn K mainGlobals "_law_parts_right" = some (some (.ref f__law_parts_right)))
    (l__law_parts_right : K.lookup f__law_parts_right = some ⟨oc__law_parts_right, od__law_parts_right, .func (PySem.W.fnOf "_law_parts_right" "_law_parts_right" (defArgs s__law_parts_right) (defBody s__law_parts_right) (defScope s__law_parts_right) .none kV__law_parts_right dc__law_parts_right pm__law_parts_right an__law_parts_right cd__law_parts_right ct__law_parts_right), sl__law_parts_right⟩)
    (c__law_parts_right_ : PySem.W.codeIn K cd__law_parts_right "_law_parts_right" = true)
    (k__law_parts_right : PySem.W.keepIn K (.ref f__law_parts_right) = true)
    (a__law_listed_right : PySem.W.nsIn K mainGlobals "_law_listed_right" = some (some (.ref f__law_listed_right)))
    (l__law_listed_right : K.lookup f__law_listed_right = some ⟨oc__law_listed_right, od__law_listed_right, .func (PySem.W.fnOf "_law_listed_right" "_law_listed_right" (defArgs s__law_listed_right) (defBody s__law_listed_right) (defScope s__law_listed_right) .none kV__law_listed_right dc__law_listed_right pm__law_listed_right an__law_listed_right cd__law_listed_right ct__law_listed_right), sl__law_listed_right⟩)
    (c__law_listed_right_ : PySem.W.codeIn K cd__law_listed_right "_law_listed_right" = true)
    (k__law_listed_right : PySem.W.keepIn K (.ref f__law_listed_right) = true)
    (a_law : PySem.W.nsIn K mainGlobals "law" = some (some (.ref f_law)))
    (l_law : K.lookup f_law = some ⟨oc_law, od_law, .func (PySem.W.fnOf "law" "law" (defArgs s_law) (defBody s_law) (defScope s_law) .none kV_law dc_law pm_law an_law cd_law ct_law), sl_law⟩)
    (c_law_ : PySem.W.codeIn K cd_law "law" = true)
    (k_law : PySem.W.keepIn K (.ref f_law) = true)
    (z_isinstance : PySem.W.nsIn K mainGlobals "isinstance" = some none)
    (z_int : PySem.W.nsIn K mainGlobals "int" = some none)
    (z_bool : PySem.W.nsIn K mainGlobals "bool" = some none)
    (z_len : PySem.W.nsIn K mainGlobals "len" = some none)
    (z_tuple : PySem.W.nsIn K mainGlobals "tuple" = some none)
    (z_range : PySem.W.nsIn K mainGlobals "range" = some none)
    (z_list : PySem.W.nsIn K mainGlobals "list" = some none)
    (z_abs : PySem.W.nsIn K mainGlobals "abs" = some none)
    (z_all : PySem.W.nsIn K mainGlobals "all" = some none)
    (z_max : PySem.W.nsIn K mainGlobals "max" = some none)
    (z_divmod : PySem.W.nsIn K mainGlobals "divmod" = some none)
    (z_iter : PySem.W.nsIn K mainGlobals "iter" = some none)
    (a_LAST_DAY : PySem.W.nsIn K mainGlobals "LAST_DAY" = some (some (.int 999999999999 t_LAST_DAY)))
    (h_Days_MOST : PySem.W.findCls K (.ref c_Days) (.type "type") "MOST" = some (.val (.int 7 t_Days_MOST)))
    (h_Stay_rd : PySem.W.readsIn K c_Stay (.type "type") = true)
    (h_Stay_tg : PySem.W.specialIn K (.ref c_Stay) "__getattribute__" = some (some (.builtin "type.__getattribute__")))
    (h_Stay_MOST : PySem.W.findCls K (.ref c_Stay) (.type "type") "MOST" = some (.val (.int 400 t_Stay_MOST)))
    (h_Lengths_MOST : PySem.W.findCls K (.ref c_Lengths) (.type "type") "MOST" = some (.val (.int 400 t_Lengths_MOST)))
    : LawAtG l w K CX0 40 63 "script" mg fa h := by
  have F_is_whole := fun_mk (st := s_is_whole) l_is_whole c_is_whole_ k_is_whole
  have F_is_from := fun_mk (st := s_is_from) l_is_from c_is_from_ k_is_from
  have F_is_day := fun_mk (st := s_is_day) l_is_day c_is_day_ k_is_day
  have F_are_from := fun_mk (st := s_are_from) l_are_from c_are_from_ k_are_from
  have F_marked := fun_mk (st := s_marked) l_marked c_marked_ k_marked
  have F_least_period := fun_mk (st := s_least_period) l_least_period c_least_period_ k_least_period
  have F_common_period := fun_mk (st := s_common_period) l_common_period c_common_period_ k_common_period
  have F_check_parts := fun_mk (st := s_check_parts) l_check_parts c_check_parts_ k_check_parts
  have F_check_size := fun_mk (st := s_check_size) l_check_size c_check_size_ k_check_size
  have F_check_argument := fun_mk (st := s_check_argument) l_check_argument c_check_argument_ k_check_argument
  have F_check_number := fun_mk (st := s_check_number) l_check_number c_check_number_ k_check_number
  have F_common_form := fun_mk (st := s_common_form) l_common_form c_common_form_ k_common_form
  have F_gathered := fun_mk (st := s_gathered) l_gathered c_gathered_ k_gathered
  have F_BadDays___init__ := fun_mk (st := s_BadDays___init__) l_BadDays___init__ c_BadDays___init___ k_BadDays___init__
  have F_BadStay___init__ := fun_mk (st := s_BadStay___init__) l_BadStay___init__ c_BadStay___init___ k_BadStay___init__
  have F_TooMany___init__ := fun_mk (st := s_TooMany___init__) l_TooMany___init__ c_TooMany___init___ k_TooMany___init__
  have F_Days___init__ := fun_mk (st := s_Days___init__) l_Days___init__ c_Days___init___ k_Days___init__
  have F_Days___eq__ := fun_mk (st := s_Days___eq__) l_Days___eq__ c_Days___eq___ k_Days___eq__
  have F_Days___contains__ := fun_mk (st := s_Days___contains__) l_Days___contains__ c_Days___contains___ k_Days___contains__
  have F_Days___and__ := fun_mk (st := s_Days___and__) l_Days___and__ c_Days___and___ k_Days___and__
  have F_Days___or__ := fun_mk (st := s_Days___or__) l_Days___or__ c_Days___or___ k_Days___or__
  have F_Days___sub__ := fun_mk (st := s_Days___sub__) l_Days___sub__ c_Days___sub___ k_Days___sub__
  have F_Days___invert__ := fun_mk (st := s_Days___invert__) l_Days___invert__ c_Days___invert___ k_Days___invert__
  have F_Days___rshift__ := fun_mk (st := s_Days___rshift__) l_Days___rshift__ c_Days___rshift___ k_Days___rshift__
  have F_Days___lshift__ := fun_mk (st := s_Days___lshift__) l_Days___lshift__ c_Days___lshift___ k_Days___lshift__
  have F_Days___le__ := fun_mk (st := s_Days___le__) l_Days___le__ c_Days___le___ k_Days___le__
  have F_Days_following := fun_mk (st := s_Days_following) l_Days_following c_Days_following_ k_Days_following
  have F_Days_none := fun_mk (st := s_Days_none) l_Days_none c_Days_none_ k_Days_none
  have F_Days_period := fun_mk (st := s_Days_period) l_Days_period c_Days_period_ k_Days_period
  have F_Stay___init__ := fun_mk (st := s_Stay___init__) l_Stay___init__ c_Stay___init___ k_Stay___init__
  have F_Stay___len__ := fun_mk (st := s_Stay___len__) l_Stay___len__ c_Stay___len___ k_Stay___len__
  have F_Stay___iter__ := fun_mk (st := s_Stay___iter__) l_Stay___iter__ c_Stay___iter___ k_Stay___iter__
  have F_Stay___rshift__ := fun_mk (st := s_Stay___rshift__) l_Stay___rshift__ c_Stay___rshift___ k_Stay___rshift__
  have F_Stay___lshift__ := fun_mk (st := s_Stay___lshift__) l_Stay___lshift__ c_Stay___lshift___ k_Stay___lshift__
  have F_Stay___floordiv__ := fun_mk (st := s_Stay___floordiv__) l_Stay___floordiv__ c_Stay___floordiv___ k_Stay___floordiv__
  have F_Stay_meets := fun_mk (st := s_Stay_meets) l_Stay_meets c_Stay_meets_ k_Stay_meets
  have F_Lengths___init__ : FunD K "__init__" "Lengths.__init__" (defArgs s_Lengths___init__) (defBody s_Lengths___init__) (defScope s_Lengths___init__) [.ref dl_Lengths___init__, .int 1, .ref dr_Lengths___init__] [] f_Lengths___init__ _ := ⟨⟨oc_Lengths___init__, od_Lengths___init__, .ref dt_Lengths___init__, kV_Lengths___init__, dc_Lengths___init__, pm_Lengths___init__, an_Lengths___init__, cd_Lengths___init__, ct_Lengths___init__, sl_Lengths___init__, rfl, l_Lengths___init__, c_Lengths___init___, .inr ⟨by simp, dt_Lengths___init__, _, [.ref dl_Lengths___init__, .int 1 tk_Lengths___init__, .ref dr_Lengths___init__], nt_Lengths___init__, rfl, lt_Lengths___init__, rfl, .cons rfl (.cons ⟨_, rfl⟩ (.cons rfl .nil))⟩, .inl rfl⟩, k_Lengths___init__⟩
  have F_Lengths___eq__ := fun_mk (st := s_Lengths___eq__) l_Lengths___eq__ c_Lengths___eq___ k_Lengths___eq__
  have F_Lengths___contains__ := fun_mk (st := s_Lengths___contains__) l_Lengths___contains__ c_Lengths___contains___ k_Lengths___contains__
  have F_Lengths___or__ := fun_mk (st := s_Lengths___or__) l_Lengths___or__ c_Lengths___or___ k_Lengths___or__
  have F_Lengths___sub__ := fun_mk (st := s_Lengths___sub__) l_Lengths___sub__ c_Lengths___sub___ k_Lengths___sub__
  have F_Lengths_at_least := fun_mk (st := s_Lengths_at_least) l_Lengths_at_least c_Lengths_at_least_ k_Lengths_at_least
  have F_Lengths_below := fun_mk (st := s_Lengths_below) l_Lengths_below c_Lengths_below_ k_Lengths_below
  have F_Lengths_none := fun_mk (st := s_Lengths_none) l_Lengths_none c_Lengths_none_ k_Lengths_none
  have F_Lengths_of := fun_mk (st := s_Lengths_of) l_Lengths_of c_Lengths_of_ k_Lengths_of
  have F_Lengths_since := fun_mk (st := s_Lengths_since) l_Lengths_since c_Lengths_since_ k_Lengths_since
  have F_Lengths_start := fun_mk (st := s_Lengths_start) l_Lengths_start c_Lengths_start_ k_Lengths_start
  have F_Lengths_period := fun_mk (st := s_Lengths_period) l_Lengths_period c_Lengths_period_ k_Lengths_period
  have F__law_pen := fun_mk (st := s__law_pen) l__law_pen c__law_pen_ k__law_pen
  have F__law_draw := fun_mk (st := s__law_draw) l__law_draw c__law_draw_ k__law_draw
  have F__law_pick := fun_mk (st := s__law_pick) l__law_pick c__law_pick_ k__law_pick
  have F__law_days := fun_mk (st := s__law_days) l__law_days c__law_days_ k__law_days
  have F__law_many := fun_mk (st := s__law_many) l__law_many c__law_many_ k__law_many
  have F__law_counts_right := fun_mk (st := s__law_counts_right) l__law_counts_right c__law_counts_right_ k__law_counts_right
  have F__law_moved_right := fun_mk (st := s__law_moved_right) l__law_moved_right c__law_moved_right_ k__law_moved_right
  have F__law_parts_right := fun_mk (st := s__law_parts_right) l__law_parts_right c__law_parts_right_ k__law_parts_right
  have F__law_listed_right := fun_mk (st := s__law_listed_right) l__law_listed_right c__law_listed_right_ k__law_listed_right
  have F_law := fun_mk (st := s_law) l_law c_law_ k_law
  have ef : f_law = fa := Value.ref.inj (Option.some.inj ((PySem.W.mg_of X G a_law).symm.trans hfa))
  exact law_at (T := {
    f_is_whole := f_is_whole
    d_is_whole := PySem.W.fnOf "is_whole" "is_whole" (defArgs s_is_whole) (defBody s_is_whole) (defScope s_is_whole) .none kV_is_whole dc_is_whole pm_is_whole an_is_whole cd_is_whole ct_is_whole
    f_is_from := f_is_from
    d_is_from := PySem.W.fnOf "is_from" "is_from" (defArgs s_is_from) (defBody s_is_from) (defScope s_is_from) .none kV_is_from dc_is_from pm_is_from an_is_from cd_is_from ct_is_from
    f_is_day := f_is_day
    d_is_day := PySem.W.fnOf "is_day" "is_day" (defArgs s_is_day) (defBody s_is_day) (defScope s_is_day) .none kV_is_day dc_is_day pm_is_day an_is_day cd_is_day ct_is_day
    f_are_from := f_are_from
    d_are_from := PySem.W.fnOf "are_from" "are_from" (defArgs s_are_from) (defBody s_are_from) (defScope s_are_from) .none kV_are_from dc_are_from pm_are_from an_are_from cd_are_from ct_are_from
    f_marked := f_marked
    d_marked := PySem.W.fnOf "marked" "marked" (defArgs s_marked) (defBody s_marked) (defScope s_marked) .none kV_marked dc_marked pm_marked an_marked cd_marked ct_marked
    f_least_period := f_least_period
    d_least_period := PySem.W.fnOf "least_period" "least_period" (defArgs s_least_period) (defBody s_least_period) (defScope s_least_period) .none kV_least_period dc_least_period pm_least_period an_least_period cd_least_period ct_least_period
    f_common_period := f_common_period
    d_common_period := PySem.W.fnOf "common_period" "common_period" (defArgs s_common_period) (defBody s_common_period) (defScope s_common_period) .none kV_common_period dc_common_period pm_common_period an_common_period cd_common_period ct_common_period
    f_check_parts := f_check_parts
    d_check_parts := PySem.W.fnOf "check_parts" "check_parts" (defArgs s_check_parts) (defBody s_check_parts) (defScope s_check_parts) .none kV_check_parts dc_check_parts pm_check_parts an_check_parts cd_check_parts ct_check_parts
    f_check_size := f_check_size
    d_check_size := PySem.W.fnOf "check_size" "check_size" (defArgs s_check_size) (defBody s_check_size) (defScope s_check_size) .none kV_check_size dc_check_size pm_check_size an_check_size cd_check_size ct_check_size
    f_check_argument := f_check_argument
    d_check_argument := PySem.W.fnOf "check_argument" "check_argument" (defArgs s_check_argument) (defBody s_check_argument) (defScope s_check_argument) .none kV_check_argument dc_check_argument pm_check_argument an_check_argument cd_check_argument ct_check_argument
    f_check_number := f_check_number
    d_check_number := PySem.W.fnOf "check_number" "check_number" (defArgs s_check_number) (defBody s_check_number) (defScope s_check_number) .none kV_check_number dc_check_number pm_check_number an_check_number cd_check_number ct_check_number
    f_common_form := f_common_form
    d_common_form := PySem.W.fnOf "common_form" "common_form" (defArgs s_common_form) (defBody s_common_form) (defScope s_common_form) .none kV_common_form dc_common_form pm_common_form an_common_form cd_common_form ct_common_form
    f_gathered := f_gathered
    d_gathered := PySem.W.fnOf "gathered" "gathered" (defArgs s_gathered) (defBody s_gathered) (defScope s_gathered) .none kV_gathered dc_gathered pm_gathered an_gathered cd_gathered ct_gathered
    c_StayError := c_StayError
    c_BadDays := c_BadDays
    f_BadDays___init__ := f_BadDays___init__
    d_BadDays___init__ := PySem.W.fnOf "__init__" "BadDays.__init__" (defArgs s_BadDays___init__) (defBody s_BadDays___init__) (defScope s_BadDays___init__) .none kV_BadDays___init__ dc_BadDays___init__ pm_BadDays___init__ an_BadDays___init__ cd_BadDays___init__ ct_BadDays___init__
    c_BadStay := c_BadStay
    f_BadStay___init__ := f_BadStay___init__
    d_BadStay___init__ := PySem.W.fnOf "__init__" "BadStay.__init__" (defArgs s_BadStay___init__) (defBody s_BadStay___init__) (defScope s_BadStay___init__) .none kV_BadStay___init__ dc_BadStay___init__ pm_BadStay___init__ an_BadStay___init__ cd_BadStay___init__ ct_BadStay___init__
    c_TooMany := c_TooMany
    f_TooMany___init__ := f_TooMany___init__
    d_TooMany___init__ := PySem.W.fnOf "__init__" "TooMany.__init__" (defArgs s_TooMany___init__) (defBody s_TooMany___init__) (defScope s_TooMany___init__) .none kV_TooMany___init__ dc_TooMany___init__ pm_TooMany___init__ an_TooMany___init__ cd_TooMany___init__ ct_TooMany___init__
    c_Days := c_Days
    f_Days___init__ := f_Days___init__
    d_Days___init__ := PySem.W.fnOf "__init__" "Days.__init__" (defArgs s_Days___init__) (defBody s_Days___init__) (defScope s_Days___init__) .none kV_Days___init__ dc_Days___init__ pm_Days___init__ an_Days___init__ cd_Days___init__ ct_Days___init__
    f_Days___eq__ := f_Days___eq__
    d_Days___eq__ := PySem.W.fnOf "__eq__" "Days.__eq__" (defArgs s_Days___eq__) (defBody s_Days___eq__) (defScope s_Days___eq__) .none kV_Days___eq__ dc_Days___eq__ pm_Days___eq__ an_Days___eq__ cd_Days___eq__ ct_Days___eq__
    f_Days___contains__ := f_Days___contains__
    d_Days___contains__ := PySem.W.fnOf "__contains__" "Days.__contains__" (defArgs s_Days___contains__) (defBody s_Days___contains__) (defScope s_Days___contains__) .none kV_Days___contains__ dc_Days___contains__ pm_Days___contains__ an_Days___contains__ cd_Days___contains__ ct_Days___contains__
    f_Days___and__ := f_Days___and__
    d_Days___and__ := PySem.W.fnOf "__and__" "Days.__and__" (defArgs s_Days___and__) (defBody s_Days___and__) (defScope s_Days___and__) .none kV_Days___and__ dc_Days___and__ pm_Days___and__ an_Days___and__ cd_Days___and__ ct_Days___and__
    f_Days___or__ := f_Days___or__
    d_Days___or__ := PySem.W.fnOf "__or__" "Days.__or__" (defArgs s_Days___or__) (defBody s_Days___or__) (defScope s_Days___or__) .none kV_Days___or__ dc_Days___or__ pm_Days___or__ an_Days___or__ cd_Days___or__ ct_Days___or__
    f_Days___sub__ := f_Days___sub__
    d_Days___sub__ := PySem.W.fnOf "__sub__" "Days.__sub__" (defArgs s_Days___sub__) (defBody s_Days___sub__) (defScope s_Days___sub__) .none kV_Days___sub__ dc_Days___sub__ pm_Days___sub__ an_Days___sub__ cd_Days___sub__ ct_Days___sub__
    f_Days___invert__ := f_Days___invert__
    d_Days___invert__ := PySem.W.fnOf "__invert__" "Days.__invert__" (defArgs s_Days___invert__) (defBody s_Days___invert__) (defScope s_Days___invert__) .none kV_Days___invert__ dc_Days___invert__ pm_Days___invert__ an_Days___invert__ cd_Days___invert__ ct_Days___invert__
    f_Days___rshift__ := f_Days___rshift__
    d_Days___rshift__ := PySem.W.fnOf "__rshift__" "Days.__rshift__" (defArgs s_Days___rshift__) (defBody s_Days___rshift__) (defScope s_Days___rshift__) .none kV_Days___rshift__ dc_Days___rshift__ pm_Days___rshift__ an_Days___rshift__ cd_Days___rshift__ ct_Days___rshift__
    f_Days___lshift__ := f_Days___lshift__
    d_Days___lshift__ := PySem.W.fnOf "__lshift__" "Days.__lshift__" (defArgs s_Days___lshift__) (defBody s_Days___lshift__) (defScope s_Days___lshift__) .none kV_Days___lshift__ dc_Days___lshift__ pm_Days___lshift__ an_Days___lshift__ cd_Days___lshift__ ct_Days___lshift__
    f_Days___le__ := f_Days___le__
    d_Days___le__ := PySem.W.fnOf "__le__" "Days.__le__" (defArgs s_Days___le__) (defBody s_Days___le__) (defScope s_Days___le__) .none kV_Days___le__ dc_Days___le__ pm_Days___le__ an_Days___le__ cd_Days___le__ ct_Days___le__
    f_Days_following := f_Days_following
    d_Days_following := PySem.W.fnOf "following" "Days.following" (defArgs s_Days_following) (defBody s_Days_following) (defScope s_Days_following) .none kV_Days_following dc_Days_following pm_Days_following an_Days_following cd_Days_following ct_Days_following
    f_Days_none := f_Days_none
    p_Days_none := p_Days_none
    d_Days_none := PySem.W.fnOf "none" "Days.none" (defArgs s_Days_none) (defBody s_Days_none) (defScope s_Days_none) .none kV_Days_none dc_Days_none pm_Days_none an_Days_none cd_Days_none ct_Days_none
    f_Days_period := f_Days_period
    p_Days_period := p_Days_period
    d_Days_period := PySem.W.fnOf "period" "Days.period" (defArgs s_Days_period) (defBody s_Days_period) (defScope s_Days_period) .none kV_Days_period dc_Days_period pm_Days_period an_Days_period cd_Days_period ct_Days_period
    c_Stay := c_Stay
    f_Stay___init__ := f_Stay___init__
    d_Stay___init__ := PySem.W.fnOf "__init__" "Stay.__init__" (defArgs s_Stay___init__) (defBody s_Stay___init__) (defScope s_Stay___init__) .none kV_Stay___init__ dc_Stay___init__ pm_Stay___init__ an_Stay___init__ cd_Stay___init__ ct_Stay___init__
    f_Stay___len__ := f_Stay___len__
    d_Stay___len__ := PySem.W.fnOf "__len__" "Stay.__len__" (defArgs s_Stay___len__) (defBody s_Stay___len__) (defScope s_Stay___len__) .none kV_Stay___len__ dc_Stay___len__ pm_Stay___len__ an_Stay___len__ cd_Stay___len__ ct_Stay___len__
    f_Stay___iter__ := f_Stay___iter__
    d_Stay___iter__ := PySem.W.fnOf "__iter__" "Stay.__iter__" (defArgs s_Stay___iter__) (defBody s_Stay___iter__) (defScope s_Stay___iter__) .none kV_Stay___iter__ dc_Stay___iter__ pm_Stay___iter__ an_Stay___iter__ cd_Stay___iter__ ct_Stay___iter__
    f_Stay___rshift__ := f_Stay___rshift__
    d_Stay___rshift__ := PySem.W.fnOf "__rshift__" "Stay.__rshift__" (defArgs s_Stay___rshift__) (defBody s_Stay___rshift__) (defScope s_Stay___rshift__) .none kV_Stay___rshift__ dc_Stay___rshift__ pm_Stay___rshift__ an_Stay___rshift__ cd_Stay___rshift__ ct_Stay___rshift__
    f_Stay___lshift__ := f_Stay___lshift__
    d_Stay___lshift__ := PySem.W.fnOf "__lshift__" "Stay.__lshift__" (defArgs s_Stay___lshift__) (defBody s_Stay___lshift__) (defScope s_Stay___lshift__) .none kV_Stay___lshift__ dc_Stay___lshift__ pm_Stay___lshift__ an_Stay___lshift__ cd_Stay___lshift__ ct_Stay___lshift__
    f_Stay___floordiv__ := f_Stay___floordiv__
    d_Stay___floordiv__ := PySem.W.fnOf "__floordiv__" "Stay.__floordiv__" (defArgs s_Stay___floordiv__) (defBody s_Stay___floordiv__) (defScope s_Stay___floordiv__) .none kV_Stay___floordiv__ dc_Stay___floordiv__ pm_Stay___floordiv__ an_Stay___floordiv__ cd_Stay___floordiv__ ct_Stay___floordiv__
    f_Stay_meets := f_Stay_meets
    d_Stay_meets := PySem.W.fnOf "meets" "Stay.meets" (defArgs s_Stay_meets) (defBody s_Stay_meets) (defScope s_Stay_meets) .none kV_Stay_meets dc_Stay_meets pm_Stay_meets an_Stay_meets cd_Stay_meets ct_Stay_meets
    c_Lengths := c_Lengths
    f_Lengths___init__ := f_Lengths___init__
    d_Lengths___init__ := PySem.W.fnOf "__init__" "Lengths.__init__" (defArgs s_Lengths___init__) (defBody s_Lengths___init__) (defScope s_Lengths___init__) (.ref dt_Lengths___init__) kV_Lengths___init__ dc_Lengths___init__ pm_Lengths___init__ an_Lengths___init__ cd_Lengths___init__ ct_Lengths___init__
    dl_Lengths___init__ := dl_Lengths___init__
    dr_Lengths___init__ := dr_Lengths___init__
    f_Lengths___eq__ := f_Lengths___eq__
    d_Lengths___eq__ := PySem.W.fnOf "__eq__" "Lengths.__eq__" (defArgs s_Lengths___eq__) (defBody s_Lengths___eq__) (defScope s_Lengths___eq__) .none kV_Lengths___eq__ dc_Lengths___eq__ pm_Lengths___eq__ an_Lengths___eq__ cd_Lengths___eq__ ct_Lengths___eq__
    f_Lengths___contains__ := f_Lengths___contains__
    d_Lengths___contains__ := PySem.W.fnOf "__contains__" "Lengths.__contains__" (defArgs s_Lengths___contains__) (defBody s_Lengths___contains__) (defScope s_Lengths___contains__) .none kV_Lengths___contains__ dc_Lengths___contains__ pm_Lengths___contains__ an_Lengths___contains__ cd_Lengths___contains__ ct_Lengths___contains__
    f_Lengths___or__ := f_Lengths___or__
    d_Lengths___or__ := PySem.W.fnOf "__or__" "Lengths.__or__" (defArgs s_Lengths___or__) (defBody s_Lengths___or__) (defScope s_Lengths___or__) .none kV_Lengths___or__ dc_Lengths___or__ pm_Lengths___or__ an_Lengths___or__ cd_Lengths___or__ ct_Lengths___or__
    f_Lengths___sub__ := f_Lengths___sub__
    d_Lengths___sub__ := PySem.W.fnOf "__sub__" "Lengths.__sub__" (defArgs s_Lengths___sub__) (defBody s_Lengths___sub__) (defScope s_Lengths___sub__) .none kV_Lengths___sub__ dc_Lengths___sub__ pm_Lengths___sub__ an_Lengths___sub__ cd_Lengths___sub__ ct_Lengths___sub__
    f_Lengths_at_least := f_Lengths_at_least
    d_Lengths_at_least := PySem.W.fnOf "at_least" "Lengths.at_least" (defArgs s_Lengths_at_least) (defBody s_Lengths_at_least) (defScope s_Lengths_at_least) .none kV_Lengths_at_least dc_Lengths_at_least pm_Lengths_at_least an_Lengths_at_least cd_Lengths_at_least ct_Lengths_at_least
    f_Lengths_below := f_Lengths_below
    d_Lengths_below := PySem.W.fnOf "below" "Lengths.below" (defArgs s_Lengths_below) (defBody s_Lengths_below) (defScope s_Lengths_below) .none kV_Lengths_below dc_Lengths_below pm_Lengths_below an_Lengths_below cd_Lengths_below ct_Lengths_below
    f_Lengths_none := f_Lengths_none
    p_Lengths_none := p_Lengths_none
    d_Lengths_none := PySem.W.fnOf "none" "Lengths.none" (defArgs s_Lengths_none) (defBody s_Lengths_none) (defScope s_Lengths_none) .none kV_Lengths_none dc_Lengths_none pm_Lengths_none an_Lengths_none cd_Lengths_none ct_Lengths_none
    f_Lengths_of := f_Lengths_of
    p_Lengths_of := p_Lengths_of
    d_Lengths_of := PySem.W.fnOf "of" "Lengths.of" (defArgs s_Lengths_of) (defBody s_Lengths_of) (defScope s_Lengths_of) .none kV_Lengths_of dc_Lengths_of pm_Lengths_of an_Lengths_of cd_Lengths_of ct_Lengths_of
    f_Lengths_since := f_Lengths_since
    p_Lengths_since := p_Lengths_since
    d_Lengths_since := PySem.W.fnOf "since" "Lengths.since" (defArgs s_Lengths_since) (defBody s_Lengths_since) (defScope s_Lengths_since) .none kV_Lengths_since dc_Lengths_since pm_Lengths_since an_Lengths_since cd_Lengths_since ct_Lengths_since
    f_Lengths_start := f_Lengths_start
    p_Lengths_start := p_Lengths_start
    d_Lengths_start := PySem.W.fnOf "start" "Lengths.start" (defArgs s_Lengths_start) (defBody s_Lengths_start) (defScope s_Lengths_start) .none kV_Lengths_start dc_Lengths_start pm_Lengths_start an_Lengths_start cd_Lengths_start ct_Lengths_start
    f_Lengths_period := f_Lengths_period
    p_Lengths_period := p_Lengths_period
    d_Lengths_period := PySem.W.fnOf "period" "Lengths.period" (defArgs s_Lengths_period) (defBody s_Lengths_period) (defScope s_Lengths_period) .none kV_Lengths_period dc_Lengths_period pm_Lengths_period an_Lengths_period cd_Lengths_period ct_Lengths_period
    f__law_pen := f__law_pen
    d__law_pen := PySem.W.fnOf "_law_pen" "_law_pen" (defArgs s__law_pen) (defBody s__law_pen) (defScope s__law_pen) .none kV__law_pen dc__law_pen pm__law_pen an__law_pen cd__law_pen ct__law_pen
    f__law_draw := f__law_draw
    d__law_draw := PySem.W.fnOf "_law_draw" "_law_draw" (defArgs s__law_draw) (defBody s__law_draw) (defScope s__law_draw) .none kV__law_draw dc__law_draw pm__law_draw an__law_draw cd__law_draw ct__law_draw
    f__law_pick := f__law_pick
    d__law_pick := PySem.W.fnOf "_law_pick" "_law_pick" (defArgs s__law_pick) (defBody s__law_pick) (defScope s__law_pick) .none kV__law_pick dc__law_pick pm__law_pick an__law_pick cd__law_pick ct__law_pick
    f__law_days := f__law_days
    d__law_days := PySem.W.fnOf "_law_days" "_law_days" (defArgs s__law_days) (defBody s__law_days) (defScope s__law_days) .none kV__law_days dc__law_days pm__law_days an__law_days cd__law_days ct__law_days
    f__law_many := f__law_many
    d__law_many := PySem.W.fnOf "_law_many" "_law_many" (defArgs s__law_many) (defBody s__law_many) (defScope s__law_many) .none kV__law_many dc__law_many pm__law_many an__law_many cd__law_many ct__law_many
    f__law_counts_right := f__law_counts_right
    d__law_counts_right := PySem.W.fnOf "_law_counts_right" "_law_counts_right" (defArgs s__law_counts_right) (defBody s__law_counts_right) (defScope s__law_counts_right) .none kV__law_counts_right dc__law_counts_right pm__law_counts_right an__law_counts_right cd__law_counts_right ct__law_counts_right
    f__law_moved_right := f__law_moved_right
    d__law_moved_right := PySem.W.fnOf "_law_moved_right" "_law_moved_right" (defArgs s__law_moved_right) (defBody s__law_moved_right) (defScope s__law_moved_right) .none kV__law_moved_right dc__law_moved_right pm__law_moved_right an__law_moved_right cd__law_moved_right ct__law_moved_right
    f__law_parts_right := f__law_parts_right
    d__law_parts_right := PySem.W.fnOf "_law_parts_right" "_law_parts_right" (defArgs s__law_parts_right) (defBody s__law_parts_right) (defScope s__law_parts_right) .none kV__law_parts_right dc__law_parts_right pm__law_parts_right an__law_parts_right cd__law_parts_right ct__law_parts_right
    f__law_listed_right := f__law_listed_right
    d__law_listed_right := PySem.W.fnOf "_law_listed_right" "_law_listed_right" (defArgs s__law_listed_right) (defBody s__law_listed_right) (defScope s__law_listed_right) .none kV__law_listed_right dc__law_listed_right pm__law_listed_right an__law_listed_right cd__law_listed_right ct__law_listed_right
    f_law := f_law
    d_law := PySem.W.fnOf "law" "law" (defArgs s_law) (defBody s_law) (defScope s_law) .none kV_law dc_law pm_law an_law cd_law ct_law
    g_is_whole := PySem.W.mg_of X G a_is_whole
    F_is_whole := F_is_whole
    bd_is_whole := F_is_whole.binds (ps := ["value"]) fun _ _ _ _ _ _ us hl => match us, hl with | [_], _ => rfl
    g_is_from := PySem.W.mg_of X G a_is_from
    F_is_from := F_is_from
    bd_is_from := F_is_from.binds (ps := ["value", "least", "most"]) fun _ _ _ _ _ _ us hl => match us, hl with | [_, _, _], _ => rfl
    g_is_day := PySem.W.mg_of X G a_is_day
    F_is_day := F_is_day
    bd_is_day := F_is_day.binds (ps := ["value"]) fun _ _ _ _ _ _ us hl => match us, hl with | [_], _ => rfl
    g_are_from := PySem.W.mg_of X G a_are_from
    F_are_from := F_are_from
    bd_are_from := F_are_from.binds (ps := ["values", "least", "most"]) fun _ _ _ _ _ _ us hl => match us, hl with | [_, _, _], _ => rfl
    g_marked := PySem.W.mg_of X G a_marked
    F_marked := F_marked
    bd_marked := F_marked.binds (ps := ["size", "numbers"]) fun _ _ _ _ _ _ us hl => match us, hl with | [_, _], _ => rfl
    g_least_period := PySem.W.mg_of X G a_least_period
    F_least_period := F_least_period
    bd_least_period := F_least_period.binds (ps := ["turn"]) fun _ _ _ _ _ _ us hl => match us, hl with | [_], _ => rfl
    g_common_period := PySem.W.mg_of X G a_common_period
    F_common_period := F_common_period
    bd_common_period := F_common_period.binds (ps := ["one", "other"]) fun _ _ _ _ _ _ us hl => match us, hl with | [_, _], _ => rfl
    g_check_parts := PySem.W.mg_of X G a_check_parts
    F_check_parts := F_check_parts
    bd_check_parts := F_check_parts.binds (ps := ["start", "low", "period", "rests"]) fun _ _ _ _ _ _ us hl => match us, hl with | [_, _, _, _], _ => rfl
    g_check_size := PySem.W.mg_of X G a_check_size
    F_check_size := F_check_size
    bd_check_size := F_check_size.binds (ps := ["start", "period"]) fun _ _ _ _ _ _ us hl => match us, hl with | [_, _], _ => rfl
    g_check_argument := PySem.W.mg_of X G a_check_argument
    F_check_argument := F_check_argument
    bd_check_argument := F_check_argument.binds (ps := ["value", "least", "most"]) fun _ _ _ _ _ _ us hl => match us, hl with | [_, _, _], _ => rfl
    g_check_number := PySem.W.mg_of X G a_check_number
    F_check_number := F_check_number
    bd_check_number := F_check_number.binds (ps := ["value"]) fun _ _ _ _ _ _ us hl => match us, hl with | [_], _ => rfl
    g_common_form := PySem.W.mg_of X G a_common_form
    F_common_form := F_common_form
    bd_common_form := F_common_form.binds (ps := ["one", "other"]) fun _ _ _ _ _ _ us hl => match us, hl with | [_, _], _ => rfl
    g_gathered := PySem.W.mg_of X G a_gathered
    F_gathered := F_gathered
    bd_gathered := F_gathered.binds (ps := ["start", "period", "numbers"]) fun _ _ _ _ _ _ us hl => match us, hl with | [_, _, _], _ => rfl
    g_StayError := PySem.W.mg_of X G a_StayError
    g_BadDays := PySem.W.mg_of X G a_BadDays
    x_BadDays := ⟨⟨nm_BadDays, q_BadDays, N_BadDays, bs_BadDays, bm_BadDays, sn_BadDays, sub_BadDays, ab_BadDays, col_BadDays, dd_BadDays, m0_BadDays, m1_BadDays, m2_BadDays, m3_BadDays, m5_BadDays, h_BadDays_l, h_BadDays_bm⟩, h_BadDays_sa, h_BadDays_ex, h_BadDays_ty, h_BadDays_kp⟩
    xf_BadDays := ⟨h_BadDays_ga, h_BadDays_gg, h_BadDays_ex, h_BadDays_hd⟩
    xc_BadDays := ⟨h_BadDays_ga, h_BadDays_gg, h_BadDays_ex, h_BadDays_hd, h_BadDays_cls, h_cget, h_ctak, h_BadDays_mro⟩
    nx_BadDays_part := h_nx_BadDays_part
    fi_BadDays___init__ := a_BadDays___init__
    isf_BadDays___init__ := i_BadDays___init__
    F_BadDays___init__ := F_BadDays___init__
    bd_BadDays___init__ := F_BadDays___init__.binds (ps := ["self", "part"]) fun _ _ _ _ _ _ us hl => match us, hl with | [_, _], _ => rfl
    ti_BadDays := t_BadDays___init__
    g_BadStay := PySem.W.mg_of X G a_BadStay
    x_BadStay := ⟨⟨nm_BadStay, q_BadStay, N_BadStay, bs_BadStay, bm_BadStay, sn_BadStay, sub_BadStay, ab_BadStay, col_BadStay, dd_BadStay, m0_BadStay, m1_BadStay, m2_BadStay, m3_BadStay, m5_BadStay, h_BadStay_l, h_BadStay_bm⟩, h_BadStay_sa, h_BadStay_ex, h_BadStay_ty, h_BadStay_kp⟩
    xf_BadStay := ⟨h_BadStay_ga, h_BadStay_gg, h_BadStay_ex, h_BadStay_hd⟩
    xc_BadStay := ⟨h_BadStay_ga, h_BadStay_gg, h_BadStay_ex, h_BadStay_hd, h_BadStay_cls, h_cget, h_ctak, h_BadStay_mro⟩
    nx_BadStay_part := h_nx_BadStay_part
    fi_BadStay___init__ := a_BadStay___init__
    isf_BadStay___init__ := i_BadStay___init__
    F_BadStay___init__ := F_BadStay___init__
    bd_BadStay___init__ := F_BadStay___init__.binds (ps := ["self", "part"]) fun _ _ _ _ _ _ us hl => match us, hl with | [_, _], _ => rfl
    ti_BadStay := t_BadStay___init__
    g_TooMany := PySem.W.mg_of X G a_TooMany
    x_TooMany := ⟨⟨nm_TooMany, q_TooMany, N_TooMany, bs_TooMany, bm_TooMany, sn_TooMany, sub_TooMany, ab_TooMany, col_TooMany, dd_TooMany, m0_TooMany, m1_TooMany, m2_TooMany, m3_TooMany, m5_TooMany, h_TooMany_l, h_TooMany_bm⟩, h_TooMany_sa, h_TooMany_ex, h_TooMany_ty, h_TooMany_kp⟩
    xf_TooMany := ⟨h_TooMany_ga, h_TooMany_gg, h_TooMany_ex, h_TooMany_hd⟩
    xc_TooMany := ⟨h_TooMany_ga, h_TooMany_gg, h_TooMany_ex, h_TooMany_hd, h_TooMany_cls, h_cget, h_ctak, h_TooMany_mro⟩
    nx_TooMany_what := h_nx_TooMany_what
    nx_TooMany_most := h_nx_TooMany_most
    fi_TooMany___init__ := a_TooMany___init__
    isf_TooMany___init__ := i_TooMany___init__
    F_TooMany___init__ := F_TooMany___init__
    bd_TooMany___init__ := F_TooMany___init__.binds (ps := ["self", "what", "most"]) fun _ _ _ _ _ _ us hl => match us, hl with | [_, _, _], _ => rfl
    ti_TooMany := t_TooMany___init__
    g_Days := PySem.W.mg_of X G a_Days
    cl_Days := ⟨h_Days_pg, h_Days_hd, h_Days_po, h_Days_sa⟩
    own_Days := ⟨⟨h_Days_pg, h_Days_hd, h_Days_po, h_Days_sa⟩, h_Days_cls, h_Days_get, h_Days_tak, h_Days_mro⟩
    na_Days__period := h_na_Days__period
    na_Days__rests := h_na_Days__rests
    fi_Days___init__ := a_Days___init__
    isf_Days___init__ := i_Days___init__
    F_Days___init__ := F_Days___init__
    bd_Days___init__ := F_Days___init__.binds (ps := ["self", "period", "rests"]) fun _ _ _ _ _ _ us hl => match us, hl with | [_, _, _], _ => rfl
    fi_Days___eq__ := a_Days___eq__
    isf_Days___eq__ := i_Days___eq__
    F_Days___eq__ := F_Days___eq__
    bd_Days___eq__ := F_Days___eq__.binds (ps := ["self", "other"]) fun _ _ _ _ _ _ us hl => match us, hl with | [_, _], _ => rfl
    fi_Days___contains__ := a_Days___contains__
    isf_Days___contains__ := i_Days___contains__
    F_Days___contains__ := F_Days___contains__
    bd_Days___contains__ := F_Days___contains__.binds (ps := ["self", "x"]) fun _ _ _ _ _ _ us hl => match us, hl with | [_, _], _ => rfl
    fi_Days___and__ := a_Days___and__
    isf_Days___and__ := i_Days___and__
    F_Days___and__ := F_Days___and__
    bd_Days___and__ := F_Days___and__.binds (ps := ["self", "other"]) fun _ _ _ _ _ _ us hl => match us, hl with | [_, _], _ => rfl
    fi_Days___or__ := a_Days___or__
    isf_Days___or__ := i_Days___or__
    F_Days___or__ := F_Days___or__
    bd_Days___or__ := F_Days___or__.binds (ps := ["self", "other"]) fun _ _ _ _ _ _ us hl => match us, hl with | [_, _], _ => rfl
    fi_Days___sub__ := a_Days___sub__
    isf_Days___sub__ := i_Days___sub__
    F_Days___sub__ := F_Days___sub__
    bd_Days___sub__ := F_Days___sub__.binds (ps := ["self", "other"]) fun _ _ _ _ _ _ us hl => match us, hl with | [_, _], _ => rfl
    fi_Days___invert__ := a_Days___invert__
    isf_Days___invert__ := i_Days___invert__
    F_Days___invert__ := F_Days___invert__
    bd_Days___invert__ := F_Days___invert__.binds (ps := ["self"]) fun _ _ _ _ _ _ us hl => match us, hl with | [_], _ => rfl
    fi_Days___rshift__ := a_Days___rshift__
    isf_Days___rshift__ := i_Days___rshift__
    F_Days___rshift__ := F_Days___rshift__
    bd_Days___rshift__ := F_Days___rshift__.binds (ps := ["self", "other"]) fun _ _ _ _ _ _ us hl => match us, hl with | [_, _], _ => rfl
    fi_Days___lshift__ := a_Days___lshift__
    isf_Days___lshift__ := i_Days___lshift__
    F_Days___lshift__ := F_Days___lshift__
    bd_Days___lshift__ := F_Days___lshift__.binds (ps := ["self", "other"]) fun _ _ _ _ _ _ us hl => match us, hl with | [_, _], _ => rfl
    fi_Days___le__ := a_Days___le__
    isf_Days___le__ := i_Days___le__
    F_Days___le__ := F_Days___le__
    bd_Days___le__ := F_Days___le__.binds (ps := ["self", "other"]) fun _ _ _ _ _ _ us hl => match us, hl with | [_, _], _ => rfl
    fi_Days_following := a_Days_following
    isf_Days_following := i_Days_following
    F_Days_following := F_Days_following
    bd_Days_following := F_Days_following.binds (ps := ["self", "d"]) fun _ _ _ _ _ _ us hl => match us, hl with | [_, _], _ => rfl
    cr_Days := ⟨h_Days_rd, h_Days_tg⟩
    F_Days_none := F_Days_none
    bd_Days_none := F_Days_none.binds (ps := []) fun _ _ _ _ _ _ us hl => match us, hl with | [], _ => rfl
    sme_Days_none := ⟨ca_Days_none, ⟨_, cr_Days_none⟩, k_Days_none⟩
    F_Days_period := F_Days_period
    bd_Days_period := F_Days_period.binds (ps := ["self"]) fun _ _ _ _ _ _ us hl => match us, hl with | [_], _ => rfl
    pp_Days_period := ⟨pa_Days_period, pg_Days_period, pt_Days_period, ⟨_, pr_Days_period⟩⟩
    g_Stay := PySem.W.mg_of X G a_Stay
    cl_Stay := ⟨h_Stay_pg, h_Stay_hd, h_Stay_po, h_Stay_sa⟩
    own_Stay := ⟨⟨h_Stay_pg, h_Stay_hd, h_Stay_po, h_Stay_sa⟩, h_Stay_cls, h_Stay_get, h_Stay_tak, h_Stay_mro⟩
    na_Stay_first := h_na_Stay_first
    na_Stay_after := h_na_Stay_after
    na_Stay__nights := h_na_Stay__nights
    fi_Stay___init__ := a_Stay___init__
    isf_Stay___init__ := i_Stay___init__
    F_Stay___init__ := F_Stay___init__
    bd_Stay___init__ := F_Stay___init__.binds (ps := ["self", "first", "after"]) fun _ _ _ _ _ _ us hl => match us, hl with | [_, _, _], _ => rfl
    fi_Stay___len__ := a_Stay___len__
    isf_Stay___len__ := i_Stay___len__
    F_Stay___len__ := F_Stay___len__
    bd_Stay___len__ := F_Stay___len__.binds (ps := ["self"]) fun _ _ _ _ _ _ us hl => match us, hl with | [_], _ => rfl
    fi_Stay___iter__ := a_Stay___iter__
    isf_Stay___iter__ := i_Stay___iter__
    F_Stay___iter__ := F_Stay___iter__
    bd_Stay___iter__ := F_Stay___iter__.binds (ps := ["self"]) fun _ _ _ _ _ _ us hl => match us, hl with | [_], _ => rfl
    fi_Stay___rshift__ := a_Stay___rshift__
    isf_Stay___rshift__ := i_Stay___rshift__
    F_Stay___rshift__ := F_Stay___rshift__
    bd_Stay___rshift__ := F_Stay___rshift__.binds (ps := ["self", "other"]) fun _ _ _ _ _ _ us hl => match us, hl with | [_, _], _ => rfl
    fi_Stay___lshift__ := a_Stay___lshift__
    isf_Stay___lshift__ := i_Stay___lshift__
    F_Stay___lshift__ := F_Stay___lshift__
    bd_Stay___lshift__ := F_Stay___lshift__.binds (ps := ["self", "other"]) fun _ _ _ _ _ _ us hl => match us, hl with | [_, _], _ => rfl
    fi_Stay___floordiv__ := a_Stay___floordiv__
    isf_Stay___floordiv__ := i_Stay___floordiv__
    F_Stay___floordiv__ := F_Stay___floordiv__
    bd_Stay___floordiv__ := F_Stay___floordiv__.binds (ps := ["self", "other"]) fun _ _ _ _ _ _ us hl => match us, hl with | [_, _], _ => rfl
    fi_Stay_meets := a_Stay_meets
    isf_Stay_meets := i_Stay_meets
    F_Stay_meets := F_Stay_meets
    bd_Stay_meets := F_Stay_meets.binds (ps := ["self", "other"]) fun _ _ _ _ _ _ us hl => match us, hl with | [_, _], _ => rfl
    g_Lengths := PySem.W.mg_of X G a_Lengths
    cl_Lengths := ⟨h_Lengths_pg, h_Lengths_hd, h_Lengths_po, h_Lengths_sa⟩
    own_Lengths := ⟨⟨h_Lengths_pg, h_Lengths_hd, h_Lengths_po, h_Lengths_sa⟩, h_Lengths_cls, h_Lengths_get, h_Lengths_tak, h_Lengths_mro⟩
    na_Lengths__start := h_na_Lengths__start
    na_Lengths__period := h_na_Lengths__period
    na_Lengths__low := h_na_Lengths__low
    na_Lengths__rests := h_na_Lengths__rests
    na_Lengths__marks := h_na_Lengths__marks
    fi_Lengths___init__ := a_Lengths___init__
    kt_dl_Lengths___init__ := ⟨_, #[], _, ldl_Lengths___init__, rfl, rfl, Nat.zero_le _, .nil⟩
    kt_dr_Lengths___init__ := ⟨_, #[], _, ldr_Lengths___init__, rfl, rfl, Nat.zero_le _, .nil⟩
    F_Lengths___init__ := F_Lengths___init__
    bd1_Lengths := F_Lengths___init__.binds1 2 0 (by simp) rfl fun _ _ _ _ _ _ _ us its h1 h2 => match us, its, h1, h2 with | [_, _], [_, _, _], _, _ => ⟨_, rfl, rfl⟩
    bd2_Lengths := F_Lengths___init__.binds1 3 1 (by simp) rfl fun _ _ _ _ _ _ _ us its h1 h2 => match us, its, h1, h2 with | [_, _, _], [_, _, _], _, _ => ⟨_, rfl, rfl⟩
    bd4_Lengths := F_Lengths___init__.binds1 5 3 (by simp) rfl fun _ _ _ _ _ _ _ us its h1 h2 => match us, its, h1, h2 with | [_, _, _, _, _], [_, _, _], _, _ => ⟨_, rfl, rfl⟩
    fi_Lengths___eq__ := a_Lengths___eq__
    isf_Lengths___eq__ := i_Lengths___eq__
    F_Lengths___eq__ := F_Lengths___eq__
    bd_Lengths___eq__ := F_Lengths___eq__.binds (ps := ["self", "other"]) fun _ _ _ _ _ _ us hl => match us, hl with | [_, _], _ => rfl
    fi_Lengths___contains__ := a_Lengths___contains__
    isf_Lengths___contains__ := i_Lengths___contains__
    F_Lengths___contains__ := F_Lengths___contains__
    bd_Lengths___contains__ := F_Lengths___contains__.binds (ps := ["self", "x"]) fun _ _ _ _ _ _ us hl => match us, hl with | [_, _], _ => rfl
    fi_Lengths___or__ := a_Lengths___or__
    isf_Lengths___or__ := i_Lengths___or__
    F_Lengths___or__ := F_Lengths___or__
    bd_Lengths___or__ := F_Lengths___or__.binds (ps := ["self", "other"]) fun _ _ _ _ _ _ us hl => match us, hl with | [_, _], _ => rfl
    fi_Lengths___sub__ := a_Lengths___sub__
    isf_Lengths___sub__ := i_Lengths___sub__
    F_Lengths___sub__ := F_Lengths___sub__
    bd_Lengths___sub__ := F_Lengths___sub__.binds (ps := ["self", "other"]) fun _ _ _ _ _ _ us hl => match us, hl with | [_, _], _ => rfl
    fi_Lengths_at_least := a_Lengths_at_least
    isf_Lengths_at_least := i_Lengths_at_least
    F_Lengths_at_least := F_Lengths_at_least
    bd_Lengths_at_least := F_Lengths_at_least.binds (ps := ["self", "n"]) fun _ _ _ _ _ _ us hl => match us, hl with | [_, _], _ => rfl
    fi_Lengths_below := a_Lengths_below
    isf_Lengths_below := i_Lengths_below
    F_Lengths_below := F_Lengths_below
    bd_Lengths_below := F_Lengths_below.binds (ps := ["self", "n"]) fun _ _ _ _ _ _ us hl => match us, hl with | [_, _], _ => rfl
    cr_Lengths := ⟨h_Lengths_rd, h_Lengths_tg⟩
    F_Lengths_none := F_Lengths_none
    bd_Lengths_none := F_Lengths_none.binds (ps := []) fun _ _ _ _ _ _ us hl => match us, hl with | [], _ => rfl
    sme_Lengths_none := ⟨ca_Lengths_none, ⟨_, cr_Lengths_none⟩, k_Lengths_none⟩
    F_Lengths_of := F_Lengths_of
    sme_Lengths_of := ⟨ca_Lengths_of, ⟨_, cr_Lengths_of⟩, k_Lengths_of⟩
    F_Lengths_since := F_Lengths_since
    bd_Lengths_since := F_Lengths_since.binds (ps := ["least"]) fun _ _ _ _ _ _ us hl => match us, hl with | [_], _ => rfl
    sme_Lengths_since := ⟨ca_Lengths_since, ⟨_, cr_Lengths_since⟩, k_Lengths_since⟩
    F_Lengths_start := F_Lengths_start
    bd_Lengths_start := F_Lengths_start.binds (ps := ["self"]) fun _ _ _ _ _ _ us hl => match us, hl with | [_], _ => rfl
    pp_Lengths_start := ⟨pa_Lengths_start, pg_Lengths_start, pt_Lengths_start, ⟨_, pr_Lengths_start⟩⟩
    F_Lengths_period := F_Lengths_period
    bd_Lengths_period := F_Lengths_period.binds (ps := ["self"]) fun _ _ _ _ _ _ us hl => match us, hl with | [_], _ => rfl
    pp_Lengths_period := ⟨pa_Lengths_period, pg_Lengths_period, pt_Lengths_period, ⟨_, pr_Lengths_period⟩⟩
    kit_Days := h_kit_Days
    kit_Lengths := h_kit_Lengths
    si_Days := h_si_Days
    si_Stay := h_si_Stay
    g_lcm := PySem.W.mg_of X G a_lcm
    g__law_pen := PySem.W.mg_of X G a__law_pen
    F__law_pen := F__law_pen
    bd__law_pen := F__law_pen.binds (ps := ["script"]) fun _ _ _ _ _ _ us hl => match us, hl with | [_], _ => rfl
    g__law_draw := PySem.W.mg_of X G a__law_draw
    F__law_draw := F__law_draw
    bd__law_draw := F__law_draw.binds (ps := ["pen", "many"]) fun _ _ _ _ _ _ us hl => match us, hl with | [_, _], _ => rfl
    g__law_pick := PySem.W.mg_of X G a__law_pick
    F__law_pick := F__law_pick
    bd__law_pick := F__law_pick.binds (ps := ["pen", "some"]) fun _ _ _ _ _ _ us hl => match us, hl with | [_, _], _ => rfl
    g__law_days := PySem.W.mg_of X G a__law_days
    F__law_days := F__law_days
    bd__law_days := F__law_days.binds (ps := ["pen", "some"]) fun _ _ _ _ _ _ us hl => match us, hl with | [_, _], _ => rfl
    g__law_many := PySem.W.mg_of X G a__law_many
    F__law_many := F__law_many
    bd__law_many := F__law_many.binds (ps := ["stay_so", "days_so"]) fun _ _ _ _ _ _ us hl => match us, hl with | [_, _], _ => rfl
    g__law_counts_right := PySem.W.mg_of X G a__law_counts_right
    F__law_counts_right := F__law_counts_right
    bd__law_counts_right := F__law_counts_right.binds (ps := ["stay_so", "one", "other"]) fun _ _ _ _ _ _ us hl => match us, hl with | [_, _, _], _ => rfl
    g__law_moved_right := PySem.W.mg_of X G a__law_moved_right
    F__law_moved_right := F__law_moved_right
    bd__law_moved_right := F__law_moved_right.binds (ps := ["pen", "stay_so", "one"]) fun _ _ _ _ _ _ us hl => match us, hl with | [_, _, _], _ => rfl
    g__law_parts_right := PySem.W.mg_of X G a__law_parts_right
    F__law_parts_right := F__law_parts_right
    bd__law_parts_right := F__law_parts_right.binds (ps := ["pen", "stay_so", "one"]) fun _ _ _ _ _ _ us hl => match us, hl with | [_, _, _], _ => rfl
    g__law_listed_right := PySem.W.mg_of X G a__law_listed_right
    F__law_listed_right := F__law_listed_right
    bd__law_listed_right := F__law_listed_right.binds (ps := ["stay_so"]) fun _ _ _ _ _ _ us hl => match us, hl with | [_], _ => rfl
    g_law := PySem.W.mg_of X G a_law
    F_law := F_law
    bd_law := F_law.binds (ps := ["script"]) fun _ _ _ _ _ _ us hl => match us, hl with | [_], _ => rfl
    b_isinstance := PySem.W.mg_none_of X G z_isinstance
    b_int := PySem.W.mg_none_of X G z_int
    b_bool := PySem.W.mg_none_of X G z_bool
    b_len := PySem.W.mg_none_of X G z_len
    b_tuple := PySem.W.mg_none_of X G z_tuple
    b_range := PySem.W.mg_none_of X G z_range
    b_list := PySem.W.mg_none_of X G z_list
    b_abs := PySem.W.mg_none_of X G z_abs
    b_all := PySem.W.mg_none_of X G z_all
    b_max := PySem.W.mg_none_of X G z_max
    b_divmod := PySem.W.mg_none_of X G z_divmod
    b_iter := PySem.W.mg_none_of X G z_iter
    g_LAST_DAY := ⟨_, PySem.W.mg_of X G a_LAST_DAY⟩
    cv_Days_MOST := ⟨_, h_Days_MOST, ⟨_, rfl⟩⟩
    cr_Stay := ⟨h_Stay_rd, h_Stay_tg⟩
    cv_Stay_MOST := ⟨_, h_Stay_MOST, ⟨_, rfl⟩⟩
    cv_Lengths_MOST := ⟨_, h_Lengths_MOST, ⟨_, rfl⟩⟩
    mk_Days := ⟨h_Days_mk, a_Days___init__, i_Days___init__, h_Days_kp⟩
    me_Days_following := ⟨a_Days_following, i_Days_following, k_Days_following⟩
    eq_Days := ⟨a_Days___eq__, i_Days___eq__, h_Days_ne, h_Days_mro⟩
    sm_Days___contains__ := ⟨a_Days___contains__, i_Days___contains__⟩
    op_Days_and := ⟨h_Days_sf, a_Days___and__, i_Days___and__, h_Days_rand⟩
    ip_Days_and := ⟨⟨cd_Days, h_Days_cd, h_Days_cm⟩, h_Days_iand, by rw [typeLookup_type, builtinLookup_eq_fast]; kernel_rfl⟩
    op_Days_or := ⟨h_Days_sf, a_Days___or__, i_Days___or__, h_Days_ror⟩
    ip_Days_or := ⟨⟨cd_Days, h_Days_cd, h_Days_cm⟩, h_Days_ior, by rw [typeLookup_type, builtinLookup_eq_fast]; kernel_rfl⟩
    op_Days_sub := ⟨h_Days_sf, a_Days___sub__, i_Days___sub__, h_Days_rsub⟩
    ip_Days_sub := ⟨⟨cd_Days, h_Days_cd, h_Days_cm⟩, h_Days_isub, by rw [typeLookup_type, builtinLookup_eq_fast]; kernel_rfl⟩
    op_Days_rshift := ⟨h_Days_sf, a_Days___rshift__, i_Days___rshift__, h_Days_rrshift⟩
    op_Days_lshift := ⟨h_Days_sf, a_Days___lshift__, i_Days___lshift__, h_Days_rlshift⟩
    cm_Days_le := ⟨a_Days___le__, i_Days___le__⟩
    mk_Stay := ⟨h_Stay_mk, a_Stay___init__, i_Stay___init__, h_Stay_kp⟩
    me_Stay_meets := ⟨a_Stay_meets, i_Stay_meets, k_Stay_meets⟩
    sm_Stay___len__ := ⟨a_Stay___len__, i_Stay___len__⟩
    sm_Stay___iter__ := ⟨a_Stay___iter__, i_Stay___iter__⟩
    op_Stay_rshift := ⟨h_Stay_sf, a_Stay___rshift__, i_Stay___rshift__, h_Stay_rrshift⟩
    op_Stay_lshift := ⟨h_Stay_sf, a_Stay___lshift__, i_Stay___lshift__, h_Stay_rlshift⟩
    op_Stay_floordiv := ⟨h_Stay_sf, a_Stay___floordiv__, i_Stay___floordiv__, h_Stay_rfloordiv⟩
    mk_Lengths := ⟨h_Lengths_mk, a_Lengths___init__, i_Lengths___init__, h_Lengths_kp⟩
    me_Lengths_at_least := ⟨a_Lengths_at_least, i_Lengths_at_least, k_Lengths_at_least⟩
    me_Lengths_below := ⟨a_Lengths_below, i_Lengths_below, k_Lengths_below⟩
    eq_Lengths := ⟨a_Lengths___eq__, i_Lengths___eq__, h_Lengths_ne, h_Lengths_mro⟩
    sm_Lengths___contains__ := ⟨a_Lengths___contains__, i_Lengths___contains__⟩
    op_Lengths_or := ⟨h_Lengths_sf, a_Lengths___or__, i_Lengths___or__, h_Lengths_ror⟩
    op_Lengths_sub := ⟨h_Lengths_sf, a_Lengths___sub__, i_Lengths___sub__, h_Lengths_rsub⟩ }) ef   
end NN

theorem PySem.Challenge.cw_nodeadnight_k17_whole_days_and_stays_holds : PySem.Challenge.rw_nodeadnight_k17_whole_days_and_stays.Holds :=
  NN.head_at @NN.all_mk
#print axioms PySem.Challenge.cw_nodeadnight_k17_whole_days_and_stays_holds
