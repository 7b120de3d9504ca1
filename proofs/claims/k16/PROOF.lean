import PyProof.Rows.All
import Wide.All
import OpenK.AllK
import Wide.FinOn
import HandS.ForMost
import HandS.EndTab
import HandS.OwnEq
import HandS.IsInst
import HandS.Exc
import HandS.ExcInit
import HandS.ExcIs
import HandS.ExcField
import HandS.Conv
import HandS.FStr
import KE.KCallOwn
import HandS.ClsMeth
import HandS.Lambda
import HandS.WordsExc
import HandS.MakeKw
import HandS.MakeKwOnly
import HandS.Wide
import KE.KOwnIter
import KE.KDictIter
import PyProof.WalksMore
import HandS.IterVal
import HandS.Comp
import PyProof.NeKinds
import KE.KIsNot
import PyProof.MeetsIn
import PyProof.EqAt
import PyProof.MeetsSeq
import HandS.Property
import HandS.Star
import HandS.Style
import HandS.Text
import HandS.ExcInitHot
import HandS.SuiteRaise
import HandS.RaiseFrom
import HandS.StrMore
import PyProof.Rows.ReprOcc
import PyProof.Rows.StrDigitsNeg
import KE.IntTextText
import KE.IntTextLaws
import HandS.Codes
import HandS.ReplaceList
import HandS.NoneIn
import HandS.More
import PyProof.SliceStr2
import PyProof.SliceSyntax
import PyProof.Rows.StrStep
import KE.RegKIsAll
import KE.RegKTryMore
import PySem.Challenge.RW_nodeadnight_k16_texts_of_stays
set_option Elab.async false
set_option linter.all false
set_option maxRecDepth 100000
set_option maxHeartbeats 4000000
/-! An abstract layer: a state is what is known (kn) and a count (n); the rest of the heap (a pen, tables of code objects, what a caller had) is kept by an invariant. -/
namespace AW
open PySem PySem.Spec PyProof.Rows L2

def isMut : HO → Bool
  | .lst _ => true | .dK _ => true | .dT _ => true | .set _ _ => true | .ins _ _ _ => true
  | _ => false
def isTbl : HO → Bool
  | .tbl _ => true
  | _ => false
/-- all that kn does not know, and all that never changes, is kept -/
def Kept (kn H H' : Hp) : Prop := ∀ x o, H x = some o → (kn x = none ∨ isMut o = false) → H' x = some o

structure Cw where
  inv : Nat → Hp → Prop
  res : Addr → Prop
  live : ∀ n H x, inv n H → res x → H x ≠ none
  step : ∀ n kn H H', inv n H → (∀ x, res x → kn x = none) → Kept kn H H' → inv n H'
  up : ∀ n m H, inv n H → n ≤ m → inv m H

structure Good (c : Cw) (kn : Hp) (n : Nat) (H : Hp) : Prop where
  ex : Ext kn H
  inv : c.inv n H
  res : ∀ x, c.res x → kn x = none
  nt : ∀ x o, kn x = some o → isTbl o = false

section
variable {c : Cw} {kn kn' H H' : Hp} {n m : Nat} {q : Addr} {o : HO}
theorem Good.free (g : Good c kn n H) (h : H q = none) : kn q = none := by
  cases e : kn q with
  | none => rfl
  | some u => rw [g.ex q u e] at h; cases h
theorem Good.up (g : Good c kn n H) (h : n ≤ m) : Good c kn m H := ⟨g.ex, c.up n m H g.inv h, g.res, g.nt⟩
theorem Kept.refl : Kept kn H H := fun _ _ h _ => h
/-- a new object -/
theorem nt_upd (h : ∀ x o, kn x = some o → isTbl o = false) (ht : isTbl o = false) : ∀ x u, upd kn q o x = some u → isTbl u = false := fun x u e => by
  by_cases hx : x = q
  · rw [hx, upd_same] at e; cases e; exact ht
  · rw [upd_ne hx] at e; exact h x u e
theorem Good.new (g : Good c kn n H) (h : H q = none) (ht : isTbl o = false := by rfl) : Good c (upd kn q o) n (upd H q o) := by
  refine ⟨fun x u e => ?_, c.step n kn H _ g.inv g.res (fun x u e _ => ?_), fun x r => ?_, nt_upd g.nt ht⟩
  · by_cases hx : x = q
    · rw [hx, upd_same] at e
      rw [hx, upd_same]
      exact e
    · rw [upd_ne hx] at e
      rw [upd_ne hx]
      exact g.ex x u e
  · rw [upd_ne (ne_of_none e h)]
    exact e
  · rw [upd_ne (fun z => c.live n H x g.inv r (by rw [z]; exact h))]
    exact g.res x r
/-- a known object is changed -/
theorem Good.put {u : HO} (g : Good c kn n H) (h : kn q = some u) (hm : isMut u = true) (ht : isTbl o = false := by rfl) : Good c (upd kn q o) n (upd H q o) := by
  refine ⟨fun x v e => ?_, c.step n kn H _ g.inv g.res (fun x v e k => ?_), fun x r => ?_, nt_upd g.nt ht⟩
  · by_cases hx : x = q
    · rw [hx, upd_same] at e
      rw [hx, upd_same]
      exact e
    · rw [upd_ne hx] at e
      rw [upd_ne hx]
      exact g.ex x v e
  · have hx : x ≠ q := fun z => by
      subst z
      have e2 := g.ex x u h
      rw [e] at e2
      cases e2
      rcases k with k | k
      · rw [h] at k; cases k
      · rw [hm] at k; cases k
    rw [upd_ne hx]
    exact e
  · rw [upd_ne (fun z => by subst z; have := g.res x r; rw [h] at this; cases this)]
    exact g.res x r
/-- the rest is only made longer -/
theorem Good.ext (g : Good c kn n H) (e : Ext H H') : Good c kn n H' :=
  ⟨fun x o h => e x o (g.ex x o h), c.step n kn H _ g.inv g.res fun x o h _ => e x o h, g.res, g.nt⟩
theorem know {a : Addr} {u : HO} (h : kn q = none) (e : kn a = some u) : upd kn q o a = some u := by
  rw [upd_ne (ne_of_none e h)]
  exact e
theorem free_upd {a : Addr} (h : kn q = none) (e : upd kn a o q = none) : True := trivial
theorem Ext.know {a : Addr} {u : HO} (x : Ext kn kn') (e : kn a = some u) : kn' a = some u := x a u e
end

/-- the abstract wish -/
def W {α : Type} (c : Cw) (t : Hp → (α → Hp → Prop) → Prop) (kn : Hp) (n : Nat) (Q : α → Hp → Nat → Prop) : Prop :=
  ∀ H, Good c kn n H → ∀ Q' : α → Hp → Prop, (∀ v kn' n' H', Q v kn' n' → Good c kn' n' H' → Q' v H') → t H Q'
structure AE where
  nx : L2.St → Hp → Nat → Prop
  rt : V → Hp → Nat → Prop
  bk : L2.St → Hp → Nat → Prop := fun _ _ _ => False
  ct : L2.St → Hp → Nat → Prop := fun _ _ _ => False
/-- an end is served by another -/
structure Fits (c : Cw) (D : AE) (D' : Ends) : Prop where
  nx : ∀ σ kn n H, D.nx σ kn n → Good c kn n H → D'.nx σ H
  rt : ∀ v kn n H, D.rt v kn n → Good c kn n H → D'.rt v H
  bk : ∀ σ kn n H, D.bk σ kn n → Good c kn n H → D'.bk σ H
  ct : ∀ σ kn n H, D.ct σ kn n → Good c kn n H → D'.ct σ H
def WS (c : Cw) (ts : TS) (D : AE) (σ : L2.St) (kn : Hp) (n : Nat) : Prop := ∀ H, Good c kn n H → ∀ D' : Ends, Fits c D D' → ts D' σ H

section
variable {c : Cw} {kn : Hp} {n : Nat} {σ : L2.St} {K : PySem.W.Frag}
theorem W.mono {α : Type} {t : Hp → (α → Hp → Prop) → Prop} {Q R : α → Hp → Nat → Prop} (h : W c t kn n Q) (k : ∀ v kn' n', Q v kn' n' → R v kn' n') : W c t kn n R :=
  fun H g Q' q => h H g Q' fun v kn' n' H' e => q v kn' n' H' (k v kn' n' e)

/-! ### expressions -/
variable {Q : V → Hp → Nat → Prop} {QB : Bool → Hp → Nat → Prop} {QA : List V → Hp → Nat → Prop} {QO : Option Int → Hp → Nat → Prop}
theorem w_var {i : Nat} {v : V} (h : σ[i]? = some (some v)) (q : Q v kn n) : W c (tVar i σ) kn n Q := fun H g _ k => ⟨v, h, k v kn n H q g⟩
theorem w_c {v : V} (q : Q v kn n) : W c (tC v σ) kn n Q := fun H g _ k => k v kn n H q g
theorem w_op {r : R2} {ta tb : TE} (h : W c (ta σ) kn n fun x kn1 n1 => W c (tb σ) kn1 n1 fun y kn2 n2 => W c (r x y) kn2 n2 Q) : W c (tOp r ta tb σ) kn n Q :=
  fun H g Q' q => h H g _ fun x kn1 n1 H1 h1 g1 => h1 H1 g1 _ fun y kn2 n2 H2 h2 g2 => h2 H2 g2 Q' q
theorem w_un {r : V → Hp → VK → Prop} {ta : TE} (h : W c (ta σ) kn n fun x kn1 n1 => W c (r x) kn1 n1 Q) : W c (tUn r ta σ) kn n Q :=
  fun H g Q' q => h H g _ fun x kn1 n1 H1 h1 g1 => h1 H1 g1 Q' q
theorem r_I0 {f : Int → Int → V} {i j : Int} (q : Q (f i j) kn n) : W c (rI0 f (.int i) (.int j)) kn n Q := fun H g _ k => ⟨i, j, rfl, rfl, k _ kn n H q g⟩
theorem r_I {C : Int → Int → Prop} {f : Int → Int → V} {i j : Int} (hc : C i j) (q : Q (f i j) kn n) : W c (rI C f (.int i) (.int j)) kn n Q := fun H g _ k => ⟨i, j, rfl, rfl, hc, k _ kn n H q g⟩
theorem r_U {f : Int → V} {i : Int} (q : Q (f i) kn n) : W c (rU f (.int i)) kn n Q := fun H g _ k => ⟨i, rfl, k _ kn n H q g⟩
theorem r_eq {x y : V} (h : scal x y = true) (q : Q (.bl (decide (x = y))) kn n) : W c (rEq x y) kn n Q := fun H g _ k => ⟨h, k _ kn n H q g⟩
theorem r_ne {x y : V} (h : scal x y = true) (q : Q (.bl (!decide (x = y))) kn n) : W c (rNe x y) kn n Q := fun H g _ k => ⟨h, k _ kn n H q g⟩
theorem sql {a : Addr} {xs : List V} {H : Hp} (h : H a = some (.lst xs)) : SqL K H a xs := .inl (.inl h)
theorem sqt {a : Addr} {xs : List V} {H : Hp} (h : H a = some (.tup xs)) : SqT K H a xs := .inl (.inl h)
theorem r_ixL {p : Addr} {xs : List V} {i : Int} {v : V} (h : kn p = some (.lst xs)) (e : atI xs i = some v) (q : Q v kn n) : W c (rIxL K (.ref p) (.int i)) kn n Q :=
  fun H g _ k => ⟨p, xs, i, v, rfl, rfl, sql (g.ex _ _ h), e, k _ kn n H q g⟩
theorem r_ixT {p : Addr} {xs : List V} {i : Int} {v : V} (h : kn p = some (.tup xs)) (e : atI xs i = some v) (q : Q v kn n) : W c (rIxT K (.ref p) (.int i)) kn n Q :=
  fun H g _ k => ⟨p, xs, i, v, rfl, rfl, sqt (g.ex _ _ h), e, k _ kn n H q g⟩
theorem w_nil (q : QA [] kn n) : W c (tNil σ) kn n QA := fun H g _ k => k _ kn n H q g
theorem w_cons {ta : TE} {tr : TA} (h : W c (ta σ) kn n fun x kn1 n1 => W c (tr σ) kn1 n1 fun xs kn2 n2 => QA (x :: xs) kn2 n2) : W c (tCons ta tr σ) kn n QA :=
  fun H g Q' q => h H g _ fun x kn1 n1 H1 h1 g1 => h1 H1 g1 _ fun xs kn2 n2 H2 h2 g2 => q _ kn2 n2 H2 h2 g2
theorem w_tup {t : TA} (h : W c (t σ) kn n fun xs kn1 n1 => xs.length ≤ 1000 ∧ ∀ q, kn1 q = none → Q (.ref q) (upd kn1 q (.tup xs)) n1) : W c (tTup t σ) kn n Q :=
  fun H g Q' q => h H g _ fun xs kn1 n1 H1 h1 g1 => ⟨Nat.le_trans h1.1 (by decide), fun p hp => q _ _ _ _ (h1.2 p (g1.free hp)) (g1.new hp)⟩
theorem w_lst {t : TA} (h : W c (t σ) kn n fun xs kn1 n1 => xs.length ≤ 1000 ∧ ∀ q, kn1 q = none → Q (.ref q) (upd kn1 q (.lst xs)) n1) : W c (tLst t σ) kn n Q :=
  fun H g Q' q => h H g _ fun xs kn1 n1 H1 h1 g1 => ⟨Nat.le_trans h1.1 (by decide), fun p hp => q _ _ _ _ (h1.2 p (g1.free hp)) (g1.new hp)⟩
theorem w_cb {r : List V → Hp → VK → Prop} {t : TA} (h : W c (t σ) kn n fun xs kn1 n1 => W c (r xs) kn1 n1 Q) : W c (tCB r t σ) kn n Q :=
  fun H g Q' q => h H g _ fun xs kn1 n1 H1 h1 g1 => h1 H1 g1 Q' q
theorem w_ifE {t : TT} {ta tb : TE} (h : W c (t σ) kn n fun b kn1 n1 => (b = true → W c (ta σ) kn1 n1 Q) ∧ (b = false → W c (tb σ) kn1 n1 Q)) : W c (tIf t ta tb σ) kn n Q :=
  fun H g Q' q => h H g _ fun b kn1 n1 H1 h1 g1 => by
    cases b with
    | true => exact iteT (h1.1 rfl H1 g1 Q' q)
    | false => exact iteF (h1.2 rfl H1 g1 Q' q)
theorem w_andV {ta tb : TE} (h : W c (ta σ) kn n fun x kn1 n1 => ∃ b, x = .bl b ∧ (b = true → W c (tb σ) kn1 n1 Q) ∧ (b = false → Q (.bl false) kn1 n1)) : W c (tAndV ta tb σ) kn n Q :=
  fun H g Q' q => h H g _ fun x kn1 n1 H1 h1 g1 => by
    obtain ⟨b, e, h2, h3⟩ := h1
    refine ⟨b, e, ?_⟩
    cases b with
    | true => exact iteT (h2 rfl H1 g1 Q' q)
    | false => exact iteF (q _ _ _ _ (h3 rfl) g1)
theorem w_orV {ta tb : TE} (h : W c (ta σ) kn n fun x kn1 n1 => ∃ b, x = .bl b ∧ (b = false → W c (tb σ) kn1 n1 Q) ∧ (b = true → Q (.bl true) kn1 n1)) : W c (tOrV ta tb σ) kn n Q :=
  fun H g Q' q => h H g _ fun x kn1 n1 H1 h1 g1 => by
    obtain ⟨b, e, h2, h3⟩ := h1
    refine ⟨b, e, ?_⟩
    cases b with
    | true => exact iteT (q _ _ _ _ (h3 rfl) g1)
    | false => exact iteF (h2 rfl H1 g1 Q' q)
theorem w_notV {ta : TE} (h : W c (ta σ) kn n fun x kn1 n1 => ∃ b, x = .bl b ∧ Q (.bl (!b)) kn1 n1) : W c (tNotV ta σ) kn n Q :=
  fun H g Q' q => h H g _ fun x kn1 n1 H1 h1 g1 => by
    obtain ⟨b, e, h2⟩ := h1
    exact ⟨b, e, q _ _ _ _ h2 g1⟩

/-! ### tests -/
theorem w_test {t : TE} (h : W c (t σ) kn n fun x kn1 n1 => ∃ b, x = .bl b ∧ QB b kn1 n1) : W c (tTest t σ) kn n QB :=
  fun H g Q' q => h H g _ fun x kn1 n1 H1 h1 g1 => by
    obtain ⟨b, e, h2⟩ := h1
    exact ⟨b, e, q _ _ _ _ h2 g1⟩
theorem w_B {t : TE} (h : W c (t σ) kn n fun x kn1 n1 => ∃ b, x = .bl b ∧ QB b kn1 n1) : W c (tB t σ) kn n QB :=
  fun H g Q' q => h H g _ fun x kn1 n1 H1 h1 g1 => by
    obtain ⟨b, e, h2⟩ := h1
    exact ⟨b, e, q _ _ _ _ h2 g1⟩
theorem w_and {t u : TT} (h : W c (t σ) kn n fun b kn1 n1 => (b = true → W c (u σ) kn1 n1 QB) ∧ (b = false → QB false kn1 n1)) : W c (tAnd t u σ) kn n QB :=
  fun H g Q' q => h H g _ fun b kn1 n1 H1 h1 g1 => by
    cases b with
    | true => exact iteT (h1.1 rfl H1 g1 Q' q)
    | false => exact iteF (q _ _ _ _ (h1.2 rfl) g1)
theorem w_or {t u : TT} (h : W c (t σ) kn n fun b kn1 n1 => (b = false → W c (u σ) kn1 n1 QB) ∧ (b = true → QB true kn1 n1)) : W c (tOr t u σ) kn n QB :=
  fun H g Q' q => h H g _ fun b kn1 n1 H1 h1 g1 => by
    cases b with
    | true => exact iteT (q _ _ _ _ (h1.2 rfl) g1)
    | false => exact iteF (h1.1 rfl H1 g1 Q' q)
theorem w_not {t : TT} (h : W c (t σ) kn n fun b kn1 n1 => QB (!b) kn1 n1) : W c (tNot t σ) kn n QB :=
  fun H g Q' q => h H g _ fun b kn1 n1 H1 h1 g1 => q _ _ _ _ h1 g1

/-! ### slices -/
theorem w_noPart (q : QO none kn n) : W c (tNoPart σ) kn n QO := fun H g _ k => k _ kn n H q g
theorem w_part {t : TE} (h : W c (t σ) kn n fun x kn1 n1 => ∃ i, x = .int i ∧ QO (some i) kn1 n1) : W c (tPart t σ) kn n QO :=
  fun H g Q' q => h H g _ fun x kn1 n1 H1 h1 g1 => by
    obtain ⟨i, e, h2⟩ := h1
    exact ⟨i, e, q _ _ _ _ h2 g1⟩
theorem w_sl {r : V → Option Int → Option Int → Hp → VK → Prop} {te : TE} {tl th : TO}
    (h : W c (te σ) kn n fun x kn1 n1 => W c (tl σ) kn1 n1 fun l kn2 n2 => W c (th σ) kn2 n2 fun u kn3 n3 => W c (r x l u) kn3 n3 Q) : W c (tSl r te tl th σ) kn n Q :=
  fun H g Q' q => h H g _ fun x kn1 n1 H1 h1 g1 => h1 H1 g1 _ fun l kn2 n2 H2 h2 g2 => h2 H2 g2 _ fun u kn3 n3 H3 h3 g3 => h3 H3 g3 Q' q
theorem r_slL {p : Addr} {xs : List V} {lo hi : Option Int} (h : kn p = some (.lst xs)) (q : ∀ l, kn l = none → Q (.ref l) (upd kn l (.lst (cutV xs lo hi))) n) : W c (rSlL K (.ref p) lo hi) kn n Q :=
  fun H g _ k => ⟨p, xs, rfl, sql (g.ex _ _ h), fun l hl => k _ _ _ _ (q l (g.free hl)) (g.new hl)⟩

/-! ### fields, objects -/
theorem w_fld {ta : TE} {f : Str} (h : W c (ta σ) kn n fun x kn1 n1 => ∃ a C dx fs v, x = .ref a ∧ kn1 a = some (.ins C dx fs) ∧ Cls K C ∧ NoAttr K C f ∧ fs.lookup f = some v ∧ Q v kn1 n1) : W c (tFld K ta f σ) kn n Q :=
  fun H g Q' q => h H g _ fun x kn1 n1 H1 h1 g1 => by
    obtain ⟨a, C, dx, fs, v, e, h2, hc, hn, hl, h3⟩ := h1
    exact ⟨a, C, dx, fs, v, e, g1.ex _ _ h2, hc, hn, hl, q _ _ _ _ h3 g1⟩

/-! ### statements -/
variable {D : AE}
theorem s_next (q : D.nx σ kn n) : WS c tNext D σ kn n := fun H g D' f => f.nx σ kn n H q g
theorem s_seq {t u : TS} (h : WS c t { D with nx := fun σ1 kn1 n1 => WS c u D σ1 kn1 n1 } σ kn n) : WS c (tSeq t u) D σ kn n :=
  fun H g D' f => h H g { D' with nx := u D' } ⟨fun σ1 kn1 n1 H1 h1 g1 => h1 H1 g1 D' f, f.rt, f.bk, f.ct⟩
theorem s_ret {te : TE} (h : W c (te σ) kn n D.rt) : WS c (tRet te) D σ kn n := fun H g D' f => h H g D'.rt fun v kn1 n1 H1 h1 g1 => f.rt v kn1 n1 H1 h1 g1
theorem s_retN (h : D.rt .non kn n) : WS c tRetN D σ kn n := fun H g D' f => f.rt _ kn n H h g
theorem s_drop {te : TE} (h : W c (te σ) kn n fun _ kn1 n1 => D.nx σ kn1 n1) : WS c (tDrop te) D σ kn n := fun H g D' f => h H g _ fun v kn1 n1 H1 h1 g1 => f.nx σ kn1 n1 H1 h1 g1
theorem s_brk (h : D.bk σ kn n) : WS c tBreak D σ kn n := fun H g D' f => f.bk σ kn n H h g
theorem s_cont (h : D.ct σ kn n) : WS c tCont D σ kn n := fun H g D' f => f.ct σ kn n H h g
theorem s_if {t : TT} {u w : TS} (h : W c (t σ) kn n fun b kn1 n1 => (b = true → WS c u D σ kn1 n1) ∧ (b = false → WS c w D σ kn1 n1)) : WS c (tIfS t u w) D σ kn n :=
  fun H g D' f => h H g _ fun b kn1 n1 H1 h1 g1 => by
    cases b with
    | true => exact iteT (h1.1 rfl H1 g1 D' f)
    | false => exact iteF (h1.2 rfl H1 g1 D' f)
/-- targets -/
def WG (c : Cw) (gt : TG) (v : V) (σ : L2.St) (kn : Hp) (n : Nat) (N : L2.St → Hp → Nat → Prop) : Prop :=
  ∀ H, Good c kn n H → ∀ N' : L2.St → Hp → Prop, (∀ σ1 kn1 n1 H1, N σ1 kn1 n1 → Good c kn1 n1 H1 → N' σ1 H1) → gt v σ H N'
theorem g_name {i : Nat} {v : V} {N : L2.St → Hp → Nat → Prop} (h : N (σ.set i (some v)) kn n) : WG c (gName i) v σ kn n N := fun H g N' f => f _ kn n H h g
def WGs (c : Cw) (gt : TGs) (vs : List V) (σ : L2.St) (kn : Hp) (n : Nat) (N : L2.St → Hp → Nat → Prop) : Prop :=
  ∀ H, Good c kn n H → ∀ N' : L2.St → Hp → Prop, (∀ σ1 kn1 n1 H1, N σ1 kn1 n1 → Good c kn1 n1 H1 → N' σ1 H1) → gt vs σ H N'
theorem g_nil {N : L2.St → Hp → Nat → Prop} (h : N σ kn n) : WGs c gNil [] σ kn n N := fun H g N' f => ⟨rfl, f _ kn n H h g⟩
theorem g_cons {t : TG} {u : TGs} {v : V} {r : List V} {N : L2.St → Hp → Nat → Prop} (h : WG c t v σ kn n fun σ1 kn1 n1 => WGs c u r σ1 kn1 n1 N) : WGs c (gCons t u) (v :: r) σ kn n N :=
  fun H g N' f => ⟨v, r, rfl, h H g _ fun σ1 kn1 n1 H1 h1 g1 => h1 H1 g1 N' f⟩
theorem g_tup {k : Nat} {t : TGs} {a : Addr} {xs : List V} {N : L2.St → Hp → Nat → Prop} (h : kn a = some (.tup xs)) (hl : xs.length = k) (q : WGs c t xs σ kn n N) : WG c (gTup K k t) (.ref a) σ kn n N :=
  fun H g N' f => ⟨a, xs, rfl, sqt (g.ex _ _ h), hl, q H g N' f⟩
theorem s_asg {te : TE} {gt : TG} (h : W c (te σ) kn n fun v kn1 n1 => WG c gt v σ kn1 n1 D.nx) : WS c (tAsg te gt) D σ kn n :=
  fun H g D' f => h H g _ fun v kn1 n1 H1 h1 g1 => h1 H1 g1 D'.nx fun σ2 kn2 n2 H2 h2 g2 => f.nx σ2 kn2 n2 H2 h2 g2
theorem s_set {te : TE} {i : Nat} (h : W c (te σ) kn n fun v kn1 n1 => D.nx (σ.set i (some v)) kn1 n1) : WS c (tAsg te (gName i)) D σ kn n :=
  s_asg (h.mono fun _ _ _ q => g_name q)
theorem s_par {i j : Nat} {ta : TA} (h : W c (ta σ) kn n fun vs kn1 n1 => ∃ v w, vs = [v, w] ∧ D.nx ((σ.set i (some v)).set j (some w)) kn1 n1) : WS c (tPar i j ta) D σ kn n :=
  fun H g D' f => h H g _ fun vs kn1 n1 H1 h1 g1 => by
    obtain ⟨v, w, e, h2⟩ := h1
    exact ⟨v, w, e, f.nx _ _ _ _ h2 g1⟩
theorem g_set {to ti : TE} {v : V} {N : L2.St → Hp → Nat → Prop}
    (h : W c (to σ) kn n fun o kn1 n1 => W c (ti σ) kn1 n1 fun i kn2 n2 => ∃ p xs k j, o = .ref p ∧ i = .int k ∧ kn2 p = some (.lst xs) ∧ ixN xs.length k = some j ∧ N σ (upd kn2 p (.lst (xs.set j v))) n2) : WG c (gSub to ti rSetL) v σ kn n N :=
  fun H g N' f => h H g _ fun o kn1 n1 H1 h1 g1 => h1 H1 g1 _ fun i kn2 n2 H2 h2 g2 => by
    obtain ⟨p, xs, k, j, e1, e2, e3, e4, h3⟩ := h2
    exact ⟨p, xs, k, j, e1, e2, g2.ex _ _ e3, e4, f _ _ _ _ h3 (g2.put e3 rfl)⟩

/-! ### loops -/
theorem s_forR1 {ta : TA} {gt : TG} {tb : TS} {j : Int} (Pv : Nat → L2.St → Hp → Nat → Prop)
    (h : W c (ta σ) kn n fun vs kn1 n1 => vs = [.int j] ∧ -(2 ^ 62) ≤ j ∧ j < 2 ^ 62 ∧ Pv 0 σ kn1 n1)
    (hs : ∀ i σ' kn' n', i < j.toNat → Pv i σ' kn' n' → WG c gt (.int (i : Int)) σ' kn' n' fun σ2 kn2 n2 => WS c tb { D with nx := Pv (i + 1), ct := Pv (i + 1), bk := D.nx } σ2 kn2 n2)
    (hd : ∀ σ' kn' n', Pv j.toNat σ' kn' n' → D.nx σ' kn' n') : WS c (tFor (iRng1 ta) gt tb) D σ kn n :=
  fun H g D' f => h H g _ fun vs kn1 n1 H1 h1 g1 => by
    obtain ⟨e, b1, b2, h2⟩ := h1
    refine ⟨j, e, b1, b2, for_range (lo := 0) (n := j.toNat) (fun i σ' H' => ∃ kn' n', Pv i σ' kn' n' ∧ Good c kn' n' H') ⟨kn1, n1, h2, g1⟩ (fun i σ' H' hi p => ?_) (fun σ' H' p => ?_)⟩
    · obtain ⟨kn', n', p, g'⟩ := p
      have e0 : (0 : Int) + (i : Int) = (i : Int) := Int.zero_add _
      rw [e0]
      refine hs i σ' kn' n' hi p H' g' _ fun σ2 kn2 n2 H2 h2 g2 => h2 H2 g2 _ ⟨fun σ3 kn3 n3 H3 h3 g3 => ⟨kn3, n3, h3, g3⟩, f.rt, fun σ3 kn3 n3 H3 h3 g3 => f.nx _ _ _ _ h3 g3, fun σ3 kn3 n3 H3 h3 g3 => ⟨kn3, n3, h3, g3⟩⟩
    · obtain ⟨kn', n', p, g'⟩ := p
      exact f.nx _ _ _ _ (hd σ' kn' n' p) g'
end
end AW

namespace AW
open PySem PySem.Spec PyProof.Rows L2 LamX

/-! ### contexts: a def without a pen -/
/-- all that the caller had, but what kn0 knows and may change -/
def pureC (kn0 H0 : Hp) : Cw where
  inv _ H := Kept kn0 H0 H
  res x := H0 x ≠ none ∧ kn0 x = none
  live n H x k r := by
    obtain ⟨r1, r2⟩ := r
    cases e : H0 x with
    | none => exact absurd e r1
    | some o =>
      rw [k x o e (.inl r2)]
      exact fun z => nomatch z
  step n kn H H' k r s := fun x o e h => by
    refine s x o (k x o e h) ?_
    rcases h with h | h
    · exact .inl (r x ⟨(by rw [e]; exact fun z => nomatch z), h⟩)
    · exact .inr h
  up _ _ _ h _ := h
theorem pure_start {kn H : Hp} (h : Ext kn H) (t : ∀ x o, kn x = some o → isTbl o = false) : Good (pureC kn H) kn 0 H := ⟨h, Kept.refl, fun _ r => r.2, t⟩
theorem pure_any {kn0 H0 kn H : Hp} {n m : Nat} (g : Good (pureC kn0 H0) kn n H) : Good (pureC kn0 H0) kn m H := ⟨g.ex, g.inv, g.res, g.nt⟩
/-- a state of the callee is one of the caller -/
theorem Good.back {c : Cw} {kn kn' H H' : Hp} {n m : Nat} (g : Good c kn n H) (h : Good (pureC kn H) kn' m H') : Good c kn' n H' :=
  ⟨h.ex, c.step n kn H H' g.inv g.res h.inv, fun x r => h.res x ⟨c.live n H x g.inv r, g.res x r⟩, h.nt⟩

theorem both_t {A B : Prop} (h : A) : (true = true → A) ∧ (true = false → B) := ⟨fun _ => h, fun z => Bool.noConfusion z⟩
theorem both_f {A B : Prop} (h : B) : (false = true → A) ∧ (false = false → B) := ⟨fun z => Bool.noConfusion z, fun _ => h⟩
abbrev AK := V → Hp → Prop
abbrev AXK := Value → Option Addr → Hp → Prop
/-- a promise told of what is known -/
def liftX (B : List V → Hp → AK → AXK → Prop) : Sp := fun vs H Q E => ∃ kn, Ext kn H ∧ (∀ x o, kn x = some o → isTbl o = false) ∧ B vs kn (fun v kn' => ∀ n' H', Good (pureC kn H) kn' n' H' → Q v H') (fun cls d kn' => ∀ n' H', Good (pureC kn H) kn' n' H' → E cls d H')
def MonoX (B : List V → Hp → AK → AXK → Prop) : Prop := ∀ vs kn Q R E F, (∀ v k, Q v k → R v k) → (∀ cls d k, E cls d k → F cls d k) → B vs kn Q E → B vs kn R F
abbrev noX (B : List V → Hp → AK → Prop) : List V → Hp → AK → AXK → Prop := fun vs kn Q _ => B vs kn Q
section
variable {c : Cw} {kn : Hp} {n : Nat} {σ : L2.St} {Q : V → Hp → Nat → Prop} {K : PySem.W.Frag}
theorem sp_call {B : List V → Hp → AK → AXK → Prop} {vs : List V} {E : XK} {EA : Value → Option Addr → Hp → Nat → Prop} (hm : MonoX B)
    (hE : ∀ cls d kn' n' H', EA cls d kn' n' → Good c kn' n' H' → E cls d H') (h : B vs kn (fun v k => Q v k n) (fun cls d k => EA cls d k n)) : W c (fun H Q' => liftX B vs H Q' E) kn n Q :=
  fun H g Q' q => ⟨kn, g.ex, g.nt, hm vs kn _ _ _ _ (fun v k hq n' H' g' => q v k n H' hq (g.back g')) (fun cls d k he n' H' g' => hE cls d k n H' he (g.back g')) h⟩
theorem w_callX {B : List V → Hp → AK → AXK → Prop} {dvs : List V} {E : XK} {t : TA} {EA : Value → Option Addr → Hp → Nat → Prop} (hm : MonoX B)
    (hE : ∀ cls d kn' n' H', EA cls d kn' n' → Good c kn' n' H' → E cls d H') (h : W c (t σ) kn n fun vs kn1 n1 => B (vs ++ dvs) kn1 (fun v k => Q v k n1) (fun cls d k => EA cls d k n1)) : W c (tCall (liftX B) dvs E t σ) kn n Q :=
  fun H g Q' q => h H g _ fun vs kn1 n1 H1 h1 g1 => sp_call hm hE h1 H1 g1 Q' q
theorem w_call0 {B : List V → Hp → AK → AXK → Prop} {dvs : List V} {E : XK} {t : TA} (hm : MonoX B)
    (h : W c (t σ) kn n fun vs kn1 n1 => B (vs ++ dvs) kn1 (fun v k => Q v k n1) (fun _ _ _ => False)) : W c (tCall (liftX B) dvs E t σ) kn n Q :=
  w_callX (EA := fun _ _ _ _ => False) hm (fun _ _ _ _ _ h => h.elim) h
/-- the ends of a def's body -/
abbrev bodyE (c : Cw) (Q : VK) : AE := { nx := fun _ kn n => ∀ H', Good c kn n H' → Q .non H', rt := fun v kn n => ∀ H', Good c kn n H' → Q v H' }
theorem fits_body {c : Cw} {Q : VK} : Fits c (bodyE c Q) { nx := fun _ H' => Q .non H', rt := Q } :=
  ⟨fun σ kn n H h g => h H g, fun v kn n H h g => h H g, fun _ _ _ _ h _ => h.elim, fun _ _ _ _ h _ => h.elim⟩
theorem body_of {c : Cw} {t : TS} {Q : VK} {H : Hp} (g : Good c kn n H) (h : WS c t (bodyE c Q) σ kn n) : t { nx := fun _ H' => Q .non H', rt := Q } σ H := h H g _ fits_body
theorem s_mono {D D' : AE} {t : TS} (h : WS c t D σ kn n) (e1 : ∀ σ kn n, D.nx σ kn n → D'.nx σ kn n) (e2 : ∀ v kn n, D.rt v kn n → D'.rt v kn n) (e3 : ∀ σ kn n, D.bk σ kn n → D'.bk σ kn n) (e4 : ∀ σ kn n, D.ct σ kn n → D'.ct σ kn n) : WS c t D' σ kn n :=
  fun H g D2 f => h H g D2 ⟨fun σ kn n H h g => f.nx σ kn n H (e1 _ _ _ h) g, fun v kn n H h g => f.rt v kn n H (e2 _ _ _ h) g, fun σ kn n H h g => f.bk σ kn n H (e3 _ _ _ h) g, fun σ kn n H h g => f.ct σ kn n H (e4 _ _ _ h) g⟩
/-- the ways of a statement are joined -/
theorem s_join {D : AE} {t : TS} (J : L2.St → Hp → Nat → Prop) (h : WS c t { D with nx := J } σ kn n) (k : ∀ σ' kn' n', J σ' kn' n' → D.nx σ' kn' n') : WS c t D σ kn n :=
  s_mono h k (fun _ _ _ h => h) (fun _ _ _ h => h) (fun _ _ _ h => h)
theorem s_seqJ {D : AE} {t u : TS} (J : L2.St → Hp → Nat → Prop) (h : WS c t { D with nx := J } σ kn n) (k : ∀ σ' kn' n', J σ' kn' n' → WS c u D σ' kn' n') : WS c (tSeq t u) D σ kn n :=
  s_seq (s_join J h k)

/-! ### built-ins by names of their own -/
def rInt1 : List V → Hp → VK → Prop := fun xs H Q => (∃ i, xs = [.int i] ∧ Q (.int i) H) ∨ ∃ k, xs = [.bl k] ∧ Q (.int (if k then 1 else 0)) H
theorem c_int {X : Cx} : CallR X (.type "int") rInt1 := call_int1
theorem r_int1 {i : Int} (q : Q (.int i) kn n) : W c (rInt1 [.int i]) kn n Q := fun H g _ k => .inl ⟨i, rfl, k _ kn n H q g⟩
theorem r_int1b {b : Bool} (q : Q (.int (if b then 1 else 0)) kn n) : W c (rInt1 [.bl b]) kn n Q := fun H g _ k => .inr ⟨b, rfl, k _ kn n H q g⟩
def rAbs : List V → Hp → VK → Prop := fun xs H Q => ∃ i, xs = [.int i] ∧ Q (.int (if i < 0 then -i else i)) H
theorem c_abs {X : Cx} : CallR X (.builtin "abs") rAbs := call_abs
theorem r_abs {i : Int} (q : Q (.int (if i < 0 then -i else i)) kn n) : W c (rAbs [.int i]) kn n Q := fun H g _ k => ⟨i, rfl, k _ kn n H q g⟩
def rLenQ (K : PySem.W.Frag) : List V → Hp → VK → Prop := fun xs H Q => ∃ p ys, xs = [.ref p] ∧ (SqL K H p ys ∨ SqT K H p ys) ∧ Q (.int ys.length) H
theorem c_len {X : Cx} : CallR X (.builtin "len") (rLenQ X.K) := call_len_seq
theorem r_lenL {p : Addr} {xs : List V} (h : kn p = some (.lst xs)) (q : Q (.int xs.length) kn n) : W c (rLenQ K [.ref p]) kn n Q := fun H g _ k => ⟨p, xs, rfl, .inl (sql (g.ex _ _ h)), k _ kn n H q g⟩
theorem r_lenT {p : Addr} {xs : List V} (h : kn p = some (.tup xs)) (q : Q (.int xs.length) kn n) : W c (rLenQ K [.ref p]) kn n Q := fun H g _ k => ⟨p, xs, rfl, .inr (sqt (g.ex _ _ h)), k _ kn n H q g⟩
def rListQ (K : PySem.W.Frag) : List V → Hp → VK → Prop := fun xs H Q => ∃ p ys, xs = [.ref p] ∧ (SqL K H p ys ∨ SqT K H p ys) ∧ ∀ l, H l = none → Q (.ref l) (upd H l (.lst ys))
theorem c_list {X : Cx} : CallR X (.type "list") (rListQ X.K) := call_list_of
theorem r_listL {p : Addr} {xs : List V} (h : kn p = some (.lst xs)) (q : ∀ l, kn l = none → Q (.ref l) (upd kn l (.lst xs)) n) : W c (rListQ K [.ref p]) kn n Q := fun H g _ k => ⟨p, xs, rfl, .inl (sql (g.ex _ _ h)), fun l hl => k _ _ _ _ (q l (g.free hl)) (g.new hl)⟩
def rStrI : List V → Hp → VK → Prop := fun xs H Q => ∃ i, xs = [.int i] ∧ i.natAbs.log2 < 1920 ∧ Q (.str (toString i)) H
theorem c_strI {X : Cx} : CallR X (.type "str") rStrI := call_str_int
theorem r_strI {i : Int} (h : i.natAbs.log2 < 1920) (q : Q (.str (toString i)) kn n) : W c (rStrI [.int i]) kn n Q := fun H g _ k => ⟨i, rfl, h, k _ kn n H q g⟩

/-! ### == of data -/
theorem r_eqD {x y : V} {d e : PyData} (hx : Dp K kn x d) (hy : Dp K kn y e) (sx : SeqAt.shaped d = true) (sy : SeqAt.shaped e = true) (hmono : ∀ H v d, Ext kn H → Dp K kn v d → Dp K H v d) (q : Q (.bl (PyData.eqv d e)) kn n) : W c (rEqD K x y) kn n Q :=
  fun H g _ k => ⟨d, e, hmono H x d g.ex hx, hmono H y e g.ex hy, sx, sy, k _ kn n H q g⟩
mutual
theorem Dp.ext {H H' : Hp} (e : Ext H H') : ∀ (d : PyData) (v : V), Dp K H v d → Dp K H' v d
  | .none, _, h => by cases h; exact .non
  | .bool b, _, h => by cases h; exact .bl b
  | .int i, _, h => by cases h; exact .int i
  | .str x, _, h => by cases h; exact .str x
  | .list ds, _, h => by
    cases h with
    | lst hs ha => exact .lst (hs.ext e) (Dp.extAll e ds _ ha)
  | .tuple ds, _, h => by
    cases h with
    | tup hs ha => exact .tup (hs.ext e) (Dp.extAll e ds _ ha)
  | .dict _, _, h => by cases h
theorem Dp.extAll {H H' : Hp} (e : Ext H H') : ∀ (ds : List PyData) (vs : List V), DpAll K H vs ds → DpAll K H' vs ds
  | [], _, h => by cases h; exact .nil
  | d :: ds, _, h => by
    cases h with
    | cons h1 h2 => exact .cons (Dp.ext e d _ h1) (Dp.extAll e ds _ h2)
end
theorem r_eq_d {x y : V} {d e : PyData} (hx : Dp K kn x d) (hy : Dp K kn y e) (sx : SeqAt.shaped d = true) (sy : SeqAt.shaped e = true) (q : Q (.bl (PyData.eqv d e)) kn n) : W c (rEqD K x y) kn n Q :=
  r_eqD hx hy sx sy (fun H v d e h => Dp.ext e d v h) q
theorem r_ne_d {x y : V} {d e : PyData} (hx : Dp K kn x d) (hy : Dp K kn y e) (sx : SeqAt.shaped d = true) (sy : SeqAt.shaped e = true) (q : Q (.bl (!PyData.eqv d e)) kn n) : W c (rNeD K x y) kn n Q :=
  fun H g _ k => ⟨d, e, Dp.ext g.ex d x hx, Dp.ext g.ex e y hy, sx, sy, k _ kn n H q g⟩
end
end AW

/-! Operators of own classes. -/
namespace OX
open PySem PySem.W PySem.Calls PyProof.Rows Builtin
section
variable {prog : Program} {w : World} {A : Around} {E : Value → Shared → Prop} {s : Shared} {K : Frag} {x C f : Addr} {ox : Obj} {od : Option Obj} {b : Value}

theorem numSlot_own {M : Model} {h : Heap} {nm : String} (X : K.In h) (hs : findIn K (.ref C) (PySem.dunder nm) = some (some (.ref f))) (hr : findIn K (.ref C) (dunderR nm) = some none) :
    Looks M h (numberSlotInPython (.ref C) nm) true := by
  intro A Q E s k q
  unfold numberSlotInPython
  dsimp only
  refine wpAny_bind (looks_findIn X hs A _ E s k ?_)
  show wpAny M A (pure true >>= _) _ _ _
  refine wpAny_bind (wpAny_pure ?_)
  refine wpAny_bind (looks_findIn X hr A _ E s k ?_)
  show wpAny M A (pure false >>= _) _ _ _
  refine wpAny_bind (wpAny_pure ?_)
  simp only [Bool.or_false, if_true]
  exact wpAny_pure q
/-- an operator of an own class, the other operand of a built-in type -/
theorem binop1_T {nm T : String} {r : Bool} {o : Option Value} {Q : Value → Shared → Prop} (X : K.In s.heap) (I : InstAt s.heap x ox C od) (hb : Looks (model prog w) s.heap (typeOf b) (.type T)) (hc : selfFirst K C = true)
    (hs : findIn K (.ref C) (PySem.dunder nm) = some (some (.ref f))) (hf : isFn K (.ref f) = true) (hr : findIn K (.ref C) (dunderR nm) = some none) (fill : fillsNumberSlot (.type T) nm = pure r)
    (sub : subIn K (.type T) (.ref C) = some false) (hT : typeLookup (.type T) (dunderR nm) = pure o)
    (h : wpAny (model prog w) A (call (.ref f) [.ref x, b]) (PySem.W.CmpBack Q) E s) : wpAny (model prog w) A (binaryOp1 nm (.ref x) b) (fun r s' => ∃ v, r = some v ∧ Q v s') E s := by
  obtain ⟨cd, hcd, hm⟩ := any_some hc
  obtain ⟨rest, hm⟩ : ∃ rest, cd.mro = .ref C :: rest := by
    cases q : cd.mro with
    | nil => rw [q] at hm; cases hm
    | cons a r => rw [q] at hm; exact ⟨r, by rw [List.head?_cons] at hm; cases (beq_iff_eq.mp hm); rfl⟩
  have ne : ((Value.ref C) == (Value.type T)) = false := beq_eq_false_iff_ne.mpr (fun z => nomatch z)
  have last : ∀ {α : Type} (k : Option Value → Sem α) (P : α → Shared → Prop), (∀ v s', PySem.W.CmpBack Q v s' → wpAny (model prog w) A (k (some v)) P E s') → wpAny (model prog w) A (tryMethod (.ref x) (PySem.dunder nm) b >>= k) P E s := fun k P hk => by
    refine wpAny_bind ?_
    unfold tryMethod
    refine wpAny_bind (special_fn X I hs (beq_iff_eq.mp hf) (wpAny_mono h (fun v s' hv => ?_) fun _ _ e => e))
    cases v <;> first | exact hv.elim | exact wpAny_pure (hk _ _ hv)
  unfold binaryOp1
  refine wpAny_bind (I.type.here (wpAny_bind (hb.here (wpAny_bind ((fills_K X hcd hm hs).here ?_)))))
  rw [ne]
  simp only [Bool.false_eq_true, if_false]
  refine wpAny_bind (wpAny_of_eq fill ?_)
  cases r with
  | false =>
    simp only [Bool.and_false, Bool.false_eq_true, if_false, Bool.false_and]
    refine wpAny_bind (wpAny_pure ?_)
    simp only [Bool.false_eq_true, if_false, if_true]
    refine last _ _ fun v s' hv => ?_
    cases v <;> first | exact hv.elim | exact wpAny_pure ⟨_, rfl, hv⟩
  | true =>
    simp only [Bool.and_true, if_true]
    refine wpAny_bind ((looks_subIn X sub).here ?_)
    simp only [Bool.false_eq_true, if_false, Bool.not_false, Bool.and_true, if_true]
    refine wpAny_bind ((numSlot_own X hs hr).here ?_)
    simp only [if_true]
    refine wpAny_bind (wpAny_of_eq (show numberSlotInPython (.type T) nm = pure false from rfl) ?_)
    simp only [Bool.not_false, if_true]
    refine wpAny_bind (wpAny_of_eq hT ?_)
    refine last _ _ fun v s' hv => ?_
    cases v <;> first | exact hv.elim | exact wpAny_pure ⟨_, rfl, hv⟩
/-- .. the other operand of the same class -/
theorem binop1_C {nm : String} {Q : Value → Shared → Prop} (X : K.In s.heap) (I : InstAt s.heap x ox C od) (hb : Looks (model prog w) s.heap (typeOf b) (.ref C)) (hc : selfFirst K C = true)
    (hs : findIn K (.ref C) (PySem.dunder nm) = some (some (.ref f))) (hf : isFn K (.ref f) = true)
    (h : wpAny (model prog w) A (call (.ref f) [.ref x, b]) (PySem.W.CmpBack Q) E s) : wpAny (model prog w) A (binaryOp1 nm (.ref x) b) (fun r s' => ∃ v, r = some v ∧ Q v s') E s := by
  obtain ⟨cd, hcd, hm⟩ := any_some hc
  obtain ⟨rest, hm⟩ : ∃ rest, cd.mro = .ref C :: rest := by
    cases q : cd.mro with
    | nil => rw [q] at hm; cases hm
    | cons a r => rw [q] at hm; exact ⟨r, by rw [List.head?_cons] at hm; cases (beq_iff_eq.mp hm); rfl⟩
  unfold binaryOp1
  refine wpAny_bind (I.type.here (wpAny_bind (hb.here (wpAny_bind ((fills_K X hcd hm hs).here ?_)))))
  simp only [beq_self_eq_true, if_true]
  refine wpAny_bind (wpAny_pure ?_)
  simp only [Bool.and_false, Bool.false_eq_true, if_false, Bool.false_and]
  refine wpAny_bind (wpAny_pure ?_)
  simp only [Bool.false_eq_true, if_false]
  refine wpAny_bind (m := tryMethod (.ref x) _ b) ?_
  unfold tryMethod
  refine wpAny_bind (special_fn X I hs (beq_iff_eq.mp hf) (wpAny_mono h (fun v s' hv => ?_) fun _ _ e => e))
  cases v <;> first | exact hv.elim | exact wpAny_pure (wpAny_pure ⟨_, rfl, hv⟩)
theorem binop_of {op : Operator} {a : Value} {Q : Value → Shared → Prop} (h : wpAny (model prog w) A (binaryOp1 op.info.2 a b) (fun r s' => ∃ v, r = some v ∧ Q v s') E s) : wpAny (model prog w) A (binaryOp op a b) Q E s := by
  unfold binaryOp
  refine wpAny_holding (wpAny_bind (wpAny_mono h (fun r s' z => ?_) fun _ _ z => z))
  obtain ⟨v, rfl, q⟩ := z
  exact wpAny_pure q
theorem inplace_of {op : Operator} {Q : Value → Shared → Prop} (I : InstAt s.heap x ox C od) (hno : Looks (model prog w) s.heap (fillsInplaceSlot (.ref C) op.info.2 (op == .Add)) false)
    (h : wpAny (model prog w) A (binaryOp1 op.info.2 (.ref x) b) (fun r s' => ∃ v, r = some v ∧ Q v s') E s) : wpAny (model prog w) A (inplaceOp op (.ref x) b) Q E s := by
  unfold inplaceOp
  refine wpAny_holding (wpAny_bind (I.type.here (wpAny_bind (hno.here ?_))))
  simp only [Bool.false_eq_true, if_false]
  refine wpAny_bind (wpAny_mono h (fun r s' z => ?_) fun _ _ z => z)
  obtain ⟨v, rfl, q⟩ := z
  exact wpAny_pure q
/-- a class with no other own class above it has no slot in place -/
theorem noInplace {M : Model} {h : Heap} {nm : String} {add : Bool} {cd : ClassData} (X : K.In h) (hc : clsIn K C = some cd) (hm : cd.mro = [.ref C, .type "object"]) (hi : findIn K (.ref C) (dunderI nm) = some none)
    (ho : typeLookup (.type "object") (dunderI nm) = pure none) : Looks M h (fillsInplaceSlot (.ref C) nm add) false := by
  intro A Q E s k q
  unfold fillsInplaceSlot
  dsimp only
  refine wpAny_bind ((looks_clsIn X hc).andThen (f := fun cd => pure cd.mro) .now A _ E s k ?_)
  rw [hm, List.anyM_cons]
  refine wpAny_bind (wpAny_bind (looks_findIn X hi A _ E s k ?_))
  dsimp only
  refine wpAny_pure ?_
  simp only [Bool.false_eq_true, if_false]
  rw [List.anyM_cons, ho]
  refine wpAny_bind (wpAny_bind (wpAny_pure ?_))
  dsimp only
  refine wpAny_pure ?_
  simp only [Bool.false_eq_true, if_false, List.anyM_nil]
  exact wpAny_pure q

/-! ### != by an own == -/
theorem ifBound_bi {M : Model} {id : String} {name : Str} {args : List Value} {Q : Option Value → Shared → Prop} (X : K.In s.heap) (I : InstAt s.heap x ox C od) (hs : findIn K (.ref C) name = some (some (.builtin id)))
    (hbd : bindSpecial (.builtin id) (.ref x) = pure (.builtin id, [.ref x])) (h : wpAny M A (call (.builtin id) (.ref x :: args)) (fun v => Q (some v)) E s) : wpAny M A (callSpecialIfBound? (.ref x) name args) Q E s := by
  simp only [callSpecialIfBound?, bindSpecialIfBound?]
  refine wpAny_holding (wpAny_bind (wpAny_bind (wpAny_bind (I.type.here ((looks_findIn X hs).here ?_)))))
  refine wpAny_bind (wpAny_askSetting (wpAny_ite ?_))
  have fin : wpAny M A (call (.builtin id) ([.ref x] ++ args) >>= fun v => pure (some v)) Q E s := wpAny_bind (wpAny_mono h (fun v s' h' => wpAny_pure h') fun _ _ h' => h')
  rw [hbd]
  split
  · exact wpAny_bind (wpAny_pure (wpAny_pure (by exact fin)))
  · exact wpAny_tryCatch (wpAny_bind (wpAny_pure (wpAny_pure (by exact fin))))
/-- x != b, __eq__ the text's own, __ne__ object's -/
theorem ne_own {tb : Value} {Q : Value → Shared → Prop} (hu : A.units + 1 < cLine) (X : K.In s.heap) (I : InstAt s.heap x ox C od) (hb : Looks (model prog w) s.heap (typeOf b) tb) (hn : notFirst K C tb = true)
    (hs : findIn K (.ref C) "__eq__" = some (some (.ref f))) (hf : isFn K (.ref f) = true) (hne : findIn K (.ref C) "__ne__" = some (some (.builtin "object.__ne__"))) (hm : mroIn K C (.type "object") = some true)
    (h : wpAny (model prog w) A.in1 (call (.ref f) [.ref x, b]) (fun v s' => ∃ k, v = .bool k ∧ Q (.bool (!k)) s') E s) : wpAny (model prog w) A (richCompare .NotEq (.ref x) b) Q E s := by
  have hu0 : A.units < cLine := Nat.lt_of_succ_lt hu
  have sub : Looks (model prog w) s.heap (isInstance (.ref x) (.type "object")) true := I.type.andThen (looks_mroIn X hm)
  have one : wpAny (model prog w) A (tryCompare (.ref x) "__ne__" b) (fun r s' => ∃ k, r = some (.bool k) ∧ Q (.bool k) s') E s := by
    unfold tryCompare
    refine wpAny_bind (ifBound_bi X I hne (F.cmp_object.ne.bind (.ref x)) (wpAny_call (codeAny_call_builtin F.cmp_object.ne.plain F.cmpEntry_ne (W.check_slot F.cmpKind_ne F.cmpSplit_ne sub (F.cmpArgs_ne _ _) ?_))))
    unfold Builtin.«object.__ne__»
    refine wpAny_bind (wpAny_of_eq (a := ((Value.ref x : Value), [b])) (by first | rfl | (simp only [slotArgs]; rfl)) ?_)
    dsimp only
    refine wpAny_bind (wpAny_cRoomFor (show A.in1.units < cLine from hu) ?_)
    refine wpAny_bind (ifBound_K X I hs hf (wpAny_mono h (fun v s' hv => ?_) fun _ _ e => e))
    obtain ⟨k, rfl, hq⟩ := hv
    dsimp only
    refine wpAny_bind (wpAny_truthy_bool ?_)
    exact wpAny_pure (wpAny_pure ⟨_, rfl, hq⟩)
  unfold richCompare
  simp only [oneThing_ref]
  refine wpAny_holding (wpAny_bind (wpAny_cRoomFor hu0 ?_))
  refine wpAny_bind (I.type.here (wpAny_bind (hb.here ?_)))
  split
  · rename_i q
    have e : subIn K tb (.ref C) = some false := by
      rcases Bool.or_eq_true_iff.mp hn with e | e
      · rw [beq_iff_eq.mp e] at q; simp at q
      · exact beq_iff_eq.mp e
    refine wpAny_bind ((looks_subIn X e).here ?_)
    simp only [Bool.false_eq_true, if_false]
    refine wpAny_bind (wpAny_mono one (fun r s' z => ?_) fun _ _ e => e)
    obtain ⟨v, rfl, hq⟩ := z
    exact wpAny_pure hq
  · refine wpAny_bind (wpAny_pure ?_)
    simp only [Bool.false_eq_true, if_false]
    refine wpAny_bind (wpAny_mono one (fun r s' z => ?_) fun _ _ e => e)
    obtain ⟨v, rfl, hq⟩ := z
    exact wpAny_pure hq
end
end OX

/-! Own operators as rules over the abstract heap. -/
namespace L2
open PySem PySem.Spec PyProof.Rows
section
variable {X : Cx} {CX : CXT} {k : Nat} {f C : Addr} {fd : FuncData} {ps : List Str} {sp : Sp} {E : XK}
theorem callA {A : Around} {pins : List (Addr × Obj)} {σ : St} {H : Hp} {s : Shared} {Q : VK} {us : List Value} {vs : List V} (F : FnOk X.prog X.w X.K X.mg X.base CX k f fd ps sp) (hr : Room k A) (hfr : A.frames = X.A.frames)
    (hb : Binds X.K fd ps []) (hx : Passes CX X E) (I : Inv X pins σ H s) (r : Vals vs us) (h : sp vs H Q E) : wpAny (model X.prog X.w) A (call (.ref f) us) (EP X pins σ Q) X.xe s := by
  have hl : us.length = ps.length := by rw [← r.length]; exact F.len _ _ _ _ h
  have e0 : Env0 X.prog X.w X.K X.mg X.base A X.stack s H := by
    have e := I.env0
    exact ⟨by rw [hfr]; exact e.frames, e.mod, e.bs, e.bsz, e.funs, e.frf, e.hok, e.bare⟩
  refine wpAny_call (codeAny_mono (F.run A X.stack s H ⟨us, []⟩ us vs Q E hr e0 (by have := hb s us I.kIn (by simpa using hl); simpa using this) r h) fun r s' hq => ?_)
  cases r with
  | error e => exact hx pins σ H s e s' I hq
  | ok fl =>
    cases fl with
    | ret u => exact I.after hq
    | next => exact False.elim hq
    | brk => exact False.elim hq
    | cont => exact False.elim hq
theorem relV_ni {v : V} {u : Value} (r : RelV v u) {P : Value → Shared → Prop} {s : Shared} (h : P u s) : PySem.W.CmpBack P u s := by
  cases v with
  | non => cases (show u = Value.none from r); exact h
  | bl b => cases (show u = Value.bool b from r); exact h
  | int i => obtain ⟨t, e⟩ := (show ∃ t, u = Value.int i t from r); subst e; exact h
  | str x => obtain ⟨t, e⟩ := (show ∃ t, u = Value.str x t from r); subst e; exact h
  | byt x => obtain ⟨t, e⟩ := (show ∃ t, u = Value.bytes x t from r); subst e; exact h
  | flt x => obtain ⟨t, e⟩ := (show ∃ t, u = Value.float x t from r); subst e; exact h
  | ref a => cases (show u = Value.ref a from r); exact h
  | ty n => cases (show u = Value.type n from r); exact h

/-- what the written part says of an own class -/
structure OwnC (K : PySem.W.Frag) (C : Addr) : Prop where
  cl : Cls K C
  ha : PySem.W.findIn K (.ref C) "__class__" = some (some (.builtin "object.__class__"))
  hn : PySem.W.specialIn K (.builtin "object.__class__") "__get__" = some (some (.builtin "getset_descriptor.__get__"))
  htk : PySem.W.takesIn K (.builtin "object.__class__") = some true
  hm : PySem.W.mroIn K C (.type "object") = some true
theorem OwnC.ty {K : PySem.W.Frag} (c : OwnC K C) {H : Hp} {a dx : Addr} {fs : List (Str × V)} (e : H a = some (.ins C dx fs)) : TyX K H (.ref a) (.ref C) := .base (.ins e c.cl c.ha c.hn c.htk c.hm)
/-- an operator of the text's own for a left operand of the class at C -/
structure OpM (K : PySem.W.Frag) (op : Operator) (C f : Addr) : Prop where
  self : PySem.W.selfFirst K C = true
  hs : PySem.W.findIn K (.ref C) (PySem.dunder op.info.2) = some (some (.ref f))
  hf : PySem.W.isFn K (.ref f) = true
  hr : PySem.W.findIn K (.ref C) (dunderR op.info.2) = some none
/-- the right operand's type -/
inductive OpT (K : PySem.W.Frag) (op : Operator) (C : Addr) : Value → Prop where
  | own : OpT K op C (.ref C)
  | ty {T : String} {r : Bool} {o : Option Value} (fill : fillsNumberSlot (.type T) op.info.2 = pure r) (sub : PySem.W.subIn K (.type T) (.ref C) = some false) (hT : typeLookup (.type T) (dunderR op.info.2) = pure o) : OpT K op C (.type T)
def rOwn (K : PySem.W.Frag) (op : Operator) (C : Addr) (sp : Sp) (E : XK) : R2 := fun x y H Q => ∃ a dx fs t, x = .ref a ∧ H a = some (.ins C dx fs) ∧ TyX K H y t ∧ OpT K op C t ∧ sp [.ref a, y] H Q E
theorem typeOf_of {pins : List (Addr × Obj)} {σ : St} {H : Hp} {s : Shared} {y : V} {u t : Value} (I : Inv X pins σ H s) (ry : RelV y u) (ty : TyX X.K H y t) : PySem.W.Looks (model X.prog X.w) s.heap (typeOf u) t := by
  obtain ⟨P, Z, p, _⟩ := kit_of I ry ty
  exact Z.ty _ _ I.kIn p
theorem op_own {op : Operator} (M : OpM X.K op C f) (F : FnOk X.prog X.w X.K X.mg X.base CX k f fd ps sp) (hr : Room k X.A) (hb : Binds X.K fd ps []) (hx : Passes CX X E) : OpR X (binaryOp op) (rOwn X.K op C sp E) := by
  intro pins s σ H x y v u Q I rx ry h
  obtain ⟨a, dx, fs, t, rfl, ha, ty, ot, hq⟩ := h
  cases rx
  obtain ⟨mA, J, _⟩ := ins_get I.hok ha
  obtain ⟨od, J, _⟩ := J.look
  have hbt := typeOf_of I ry ty
  have hc : wpAny (model X.prog X.w) X.A (call (.ref f) [.ref a, u]) (PySem.W.CmpBack (EP X pins σ Q)) X.xe s :=
    wpAny_mono (callA (vs := [.ref a, y]) F hr rfl hb hx I (.cons rfl (.cons ry .nil)) hq) (fun z s' hz => by
      obtain ⟨v', H', I', rv, q⟩ := id hz
      exact relV_ni rv hz) fun _ _ z => z
  refine OX.binop_of ?_
  cases ot with
  | own => exact OX.binop1_C I.kIn J hbt M.self M.hs M.hf hc
  | ty fill sub hT => exact OX.binop1_T I.kIn J hbt M.self M.hs M.hf M.hr fill sub hT hc
/-- no method of the class works in place -/
structure NoIp (K : PySem.W.Frag) (op : Operator) (C : Addr) : Prop where
  cd : ∃ cd, PySem.W.clsIn K C = some cd ∧ cd.mro = [.ref C, .type "object"]
  hi : PySem.W.findIn K (.ref C) (dunderI op.info.2) = some none
  ho : typeLookup (.type "object") (dunderI op.info.2) = pure none
theorem ip_own {op : Operator} (M : OpM X.K op C f) (N : NoIp X.K op C) (F : FnOk X.prog X.w X.K X.mg X.base CX k f fd ps sp) (hr : Room k X.A) (hb : Binds X.K fd ps []) (hx : Passes CX X E) : PIp X op (rOwn X.K op C sp E) := by
  intro pins s σ H x y v u Q I rx ry h
  obtain ⟨a, dx, fs, t, rfl, ha, ty, ot, hq⟩ := h
  cases rx
  obtain ⟨mA, J, _⟩ := ins_get I.hok ha
  obtain ⟨od, J, _⟩ := J.look
  have hbt := typeOf_of I ry ty
  have hc : wpAny (model X.prog X.w) X.A (call (.ref f) [.ref a, u]) (PySem.W.CmpBack (EP X pins σ Q)) X.xe s :=
    wpAny_mono (callA (vs := [.ref a, y]) F hr rfl hb hx I (.cons rfl (.cons ry .nil)) hq) (fun z s' hz => by
      obtain ⟨v', H', I', rv, q⟩ := id hz
      exact relV_ni rv hz) fun _ _ z => z
  obtain ⟨cd, hcd, hm⟩ := N.cd
  refine OX.inplace_of J (OX.noInplace I.kIn hcd hm N.hi N.ho) ?_
  cases ot with
  | own => exact OX.binop1_C I.kIn J hbt M.self M.hs M.hf hc
  | ty fill sub hT => exact OX.binop1_T I.kIn J hbt M.self M.hs M.hf M.hr fill sub hT hc

/-! ### == and != by an own == -/
structure EqM (K : PySem.W.Frag) (C f : Addr) : Prop where
  hs : PySem.W.findIn K (.ref C) "__eq__" = some (some (.ref f))
  hf : PySem.W.isFn K (.ref f) = true
  hne : PySem.W.findIn K (.ref C) "__ne__" = some (some (.builtin "object.__ne__"))
  hm : PySem.W.mroIn K C (.type "object") = some true
def rEqO (K : PySem.W.Frag) (C : Addr) (sp : Sp) (neg : Bool) : R2 := fun x y H Q => ∃ a dx fs t, x = .ref a ∧ H a = some (.ins C dx fs) ∧ TyX K H y t ∧ PySem.W.notFirst K C t = true ∧
  sp [.ref a, y] H (fun v H' => ∃ b, v = .bl b ∧ Q (.bl (if neg then !b else b)) H') (fun _ _ _ => False)
theorem op_eqO (M : EqM X.K C f) (F : FnOk X.prog X.w X.K X.mg X.base CX k f fd ps sp) (hr : Room (k + 1) X.A) (hb : Binds X.K fd ps []) (hx : Passes CX X (fun _ _ _ => False)) : OpR X (compareOp .Eq) (rEqO X.K C sp false) := by
  intro pins s σ H x y v u Q I rx ry h
  obtain ⟨a, dx, fs, t, rfl, ha, ty, nf, hq⟩ := h
  cases rx
  obtain ⟨mA, J, _⟩ := ins_get I.hok ha
  obtain ⟨od, J, _⟩ := J.look
  have hbt := typeOf_of I ry ty
  obtain ⟨m, hF⟩ := I.fr
  show wpAny (model X.prog X.w) X.A (richCompare .Eq (.ref a) u) (EP X pins σ Q) X.xe s
  refine PySem.W.cmp_K (op := .Eq) hr.units0 hF I.ok.mod.kin J hbt nf M.hs M.hf ?_
  refine wpAny_mono (callA (vs := [.ref a, y]) F (hr.mono (Nat.le_succ _)) rfl hb hx I (.cons rfl (.cons ry .nil)) hq) (fun z s' hz => ?_) fun _ _ z => z
  obtain ⟨v', H', I', rv, b, e, q⟩ := hz
  subst e
  cases (show z = Value.bool b from rv)
  exact ⟨.bl b, H', I', rfl, q⟩
theorem op_neO (M : EqM X.K C f) (F : FnOk X.prog X.w X.K X.mg X.base CX k f fd ps sp) (hr : Room (k + 1) X.A) (hb : Binds X.K fd ps []) (hx : Passes CX X (fun _ _ _ => False)) : OpR X (compareOp .NotEq) (rEqO X.K C sp true) := by
  intro pins s σ H x y v u Q I rx ry h
  obtain ⟨a, dx, fs, t, rfl, ha, ty, nf, hq⟩ := h
  cases rx
  obtain ⟨mA, J, _⟩ := ins_get I.hok ha
  obtain ⟨od, J, _⟩ := J.look
  have hbt := typeOf_of I ry ty
  show wpAny (model X.prog X.w) X.A (richCompare .NotEq (.ref a) u) (EP X pins σ Q) X.xe s
  have hu := hr.un
  refine OX.ne_own (by omega) I.kIn J hbt nf M.hs M.hf M.hne M.hm ?_
  refine wpAny_mono (callA (A := X.A.in1) (vs := [.ref a, y]) F hr.in1 rfl hb hx I (.cons rfl (.cons ry .nil)) hq) (fun z s' hz => ?_) fun _ _ z => z
  obtain ⟨v', H', I', rv, b, e, q⟩ := hz
  subst e
  cases (show z = Value.bool b from rv)
  exact ⟨b, rfl, .bl (!b), H', I', rfl, q⟩
end
end L2

/-! A caught error that is kept behind its suite. -/
namespace L2
open PySem PySem.Spec PyProof.Rows
/-- an error of the class cls that was caught, its own dict at d -/
def exh (e : Addr) (cls : Value) (d : Option Addr) : HO := .ext fun h => ∃ oe : Obj, h.get? e = some oe ∧ Zc cls d oe ∧ ∃ vs, oe.data = .fields vs
theorem exh_ok {P : Program} {w : World} {H : Hp} {h : Heap} {e : Addr} {cls : Value} {d : Option Addr} {oe : Obj} (he : h.get? e = some oe) (hz : Zc cls d oe) (hf : ∃ vs, oe.data = .fields vs) : ObjOk P w H h e (exh e cls d) :=
  ⟨⟨oe, he, hz, hf⟩, ⟨oe, he⟩, fun h1 h2 z k => by
    obtain ⟨o, q, r⟩ := z
    exact ⟨o, k _ q, r⟩⟩
theorem exh_at {P : Program} {w : World} {H : Hp} {h : Heap} {e : Addr} {cls : Value} {d : Option Addr} (ok : HOk P w H h) (q : H e = some (exh e cls d)) : ∃ oe : Obj, h.get? e = some oe ∧ Zc cls d oe ∧ ∃ vs, oe.data = .fields vs := by
  have z : ObjOk P w H h e (.ext fun h => ∃ oe : Obj, h.get? e = some oe ∧ Zc cls d oe ∧ ∃ vs, oe.data = .fields vs) := ok e _ q
  exact z.1
section
variable {X : Cx} {pins : List (Addr × Obj)} {σ : St} {H : Hp} {s : Shared}
/-- an object that no one knew is known from now on -/
theorem Inv.track {a : Addr} {oe : Obj} {vs : Array Value} {cls : Value} {d : Option Addr} (I : Inv X ((a, oe) :: pins) σ H s) (hd : oe.data = .fields vs) (hz : Zc cls d oe) (n0 : X.s_0.heap.get? a = none) (np : ∀ p ∈ X.pn ++ pins, p.1 ≠ a) :
    Inv X pins σ (upd H a (exh a cls d)) s := by
  obtain ⟨ea, na, nL, nF, _⟩ := I.pin (a, oe) (List.mem_append_right _ List.mem_cons_self)
  have old : ∀ {b o}, X.s_0.heap.get? b = some o → b ≠ a := fun {b o} e z => by rw [z, n0] at e; cases e
  have kn : ∀ {b u}, H b = some u → b ≠ a := fun {b u} e => ne_of_none e na
  refine ⟨I.ok, I.os, I.bare, ⟨I.base.keep, I.base.slot, fun b o e n hx => ?_, I.base.there, fun b xs e => ?_, fun b o u e => ?_, fun b ps e => ?_⟩, I.loc, I.cell, ?_, fun y c e => ?_, fun p hp => ?_, fun b u e => ?_, I.len⟩
  · rw [upd_ne (old e)]
    exact I.base.free b o e n hx
  · have q := I.base.tups b xs e
    rw [upd_ne (kn q)]
    exact q
  · have q := I.base.frzs b o u e
    rw [upd_ne (kn q)]
    exact q
  · obtain ⟨m, q⟩ := I.base.tbls b ps e
    exact ⟨m, by rw [upd_ne (kn q)]; exact q⟩
  · rw [upd_ne (Ne.symm nL)]
    exact I.free
  · obtain ⟨v, oc, hoc, hdc⟩ := I.cell y c e
    have hca : c ≠ a := fun z => by
      rw [z] at hoc
      have e2 : some oe = some oc := ea.symm.trans hoc
      rw [← Option.some.inj e2, hd] at hdc
      cases hdc
    rw [upd_ne hca]
    exact I.freeC y c e
  · obtain ⟨e, n, r⟩ := I.pin p (by
      rcases List.mem_append.mp hp with h | h
      · exact List.mem_append_left _ h
      · exact List.mem_append_right _ (List.mem_cons_of_mem _ h))
    exact ⟨e, by rw [upd_ne (np p hp)]; exact n, r⟩
  · by_cases hb : b = a
    · rw [hb, upd_same] at e
      cases e
      rw [hb]
      exact exh_ok ea hz ⟨vs, hd⟩
    · rw [upd_ne hb] at e
      exact (I.hok b u e).stay (fun c w' _ q => q) (fun c q => by rw [upd_ne (kn q)]; exact q) fun c xs q => by rw [upd_ne (kn q)]; exact q
theorem Inv.unsuiteK {a : Addr} {q : Addr × Obj} (I : Inv (X.suite a (q :: (X.pn ++ pins))) [] σ H s) (ok : X.Ok) : Inv X (q :: pins) σ H s :=
  ⟨ok, I.os, I.bare, I.base, I.loc, I.cell, I.free, I.freeC, fun p hp => I.pin p (List.mem_append_left _ (by
    rcases List.mem_append.mp hp with h | h
    · exact List.mem_cons_of_mem _ (List.mem_append_left _ h)
    · rcases List.mem_cons.mp h with h | h
      · rw [h]; exact List.mem_cons_self
      · exact List.mem_cons_of_mem _ (List.mem_append_right _ h))), I.hok, I.len⟩
end
/-- the wish of a body whose errors the clause takes, all of them, and keeps -/
def wKeep (K : PySem.W.Frag) (c : Value) (i : Nat) (ts : Addr → Value → Option Addr → TS) (D : Ends) : WX := fun cls d σ H => PySem.W.exmOne K cls c = some true ∧ ∀ a, H a = none →
  ts a cls d { nx := fun σ' H' => D.nx (σ'.set i none) (upd H' a (exh a cls d)), rt := fun v H' => D.rt v (upd H' a (exh a cls d)), bk := fun σ' H' => D.bk (σ'.set i none) (upd H' a (exh a cls d)), ct := fun σ' H' => D.ct (σ'.set i none) (upd H' a (exh a cls d)) } (σ.set i (some (.ref a))) H
section
variable {X : Cx} {x n : Str} {c : Value} {i : Nat} {body suite : List Stmt} {b₀ : Stmt} {np pos pos' : Pos} {tb : WX → TS} {ts : Addr → Value → Option Addr → TS}
theorem ps_try_keep (hex : X.ex = []) (hs : X.stack = X.env :: X.outer) (hf : X.env.frame = some X.env.locals) (hN : X.N.Nodup) (hi : X.N[i]? = some n) (hln : X.env.kindOf n = some .local) (hc : Names X x c)
    (hb : ∀ (W : WX) (pn : List (Addr × Obj)) (xe : Value → Shared → Prop), Takes (X.tr pn xe) W → PassesOwn (model X.prog X.w) X.A X.env xe → PSs (X.tr pn xe) body (tb W))
    (hsu : ∀ (a : Addr) (oe : Obj) (cls : Value) (d : Option Addr) (pn : List (Addr × Obj)), Zc cls d oe → (∃ vs, oe.data = .fields vs) → PSs (X.suite a ((a, oe) :: pn)) (b₀ :: suite) (ts a cls d)) :
    PS X (.Try body [.ExceptHandler (some (.Name x np)) (some n) (b₀ :: suite) pos'] [] [] pos) (fun D σ H => tb (wKeep X.K c i ts D) D σ H) := by
  refine ⟨fun pins s σ H D I h => ?_⟩
  have ok := I.ok
  have frm : X.A.frames = some (X.env :: X.outer) := by rw [ok.frames, hs]
  refine wpAny_Try_except ?_
  refine wpAny_mono ((hb (wKeep X.K c i ts D) (X.pn ++ pins) (fun e s₁ => wpAny (model X.prog X.w) X.A (noteFrame e X.env) (fun _ s₂ => wpAny (model X.prog X.w) X.A (setFlight e none)
    (fun _ s₃ => wpAny (model X.prog X.w) X.A (handleBy e X.env [.ExceptHandler (some (.Name x np)) (some n) (b₀ :: suite) pos']) (SP X pins D) X.xe s₃) X.xe s₂) X.xe s₁) (fun u s' xx => ?_) PassesOwn.looking).run [] s σ H D (I.toTry _) h) (fun f s1 hsp => ?_) (fun _ _ z => z)
  · obtain ⟨a, B, sI, pins', σ', H', cls, d, rfl, J', nb, up, sky, na, os, ag, hyes1, hyes⟩ := xx
    have J : Inv X pins σ' H' sI := J'.ofTry ok
    show wpAny (model X.prog X.w) X.A (noteFrame (.ref a) X.env) _ _ _
    refine Sky.land Zc.steady frm hf (show Sky B (X.env :: X.outer) a (Zc cls d) X.env.locals s'.heap by rw [← hs]; exact sky) fun h3 fl3 up3 => ?_
    have J3 : Inv X pins σ' H' { s' with heap := h3 } := J.landed nb fl3.1 (up.trans up3) os ag
    obtain ⟨oe3, vs3, he3, hz3, hd3⟩ := fl3.there
    have nfr : a ∉ frs (X.env :: X.outer) := fun hm => by
      obtain ⟨_, o', e', hnf⟩ := fl3.2.2.1.mem hm
      rw [he3] at e'
      cases e'
      exact hnf _ hd3
    have nL : a ≠ X.env.locals := fun z => nfr (List.mem_filterMap.mpr ⟨X.env, List.mem_cons_self, by rw [hf, z]⟩)
    have nF : a ∉ X.fs := fun hm => by
      obtain ⟨e, he, q⟩ := List.mem_filterMap.mp hm
      exact nfr (List.mem_filterMap.mpr ⟨e, List.mem_cons_of_mem _ he, q⟩)
    have inB : ∀ {b : Addr} {o : Obj}, sI.heap.get? b = some o → b ∉ frs X.stack → b ≠ a := fun {b o} e hb z => by
      have q := nb b o e hb
      rw [z, fl3.2.1] at q
      cases q
    have n0 : X.s_0.heap.get? a = none := by
      cases e : X.s_0.heap.get? a with
      | none => rfl
      | some o =>
        obtain ⟨o', e'⟩ := J.base.there a o e (by rw [hex]; exact fun z => nomatch z)
        exact absurd rfl (inB e' (by rw [hs]; exact nfr))
    have npin : ∀ p ∈ X.pn ++ pins, p.1 ≠ a := fun p hp => by
      obtain ⟨e, _, n1, n2, _⟩ := J.pin p hp
      exact inB e fun hm => (List.mem_cons.mp (J.stkSub _ hm)).elim n1 n2
    refine wpAny_handleBy_cons (codeAny_handlers_test ?_) (by intro q; cases q)
    have LT : PySem.W.Looks (model X.prog X.w) h3 (typeOf (.ref a)) cls := fun A Q E s k q => wpAny_typeOf_ref (k _ _ he3) (by rw [hz3.1]; exact q)
    have S3 := J3.suite he3 hd3 na nL nF
    have test : ∀ {Q : Value → Shared → Prop} {E : Value → Shared → Prop}, Q c { s' with heap := h3 } → wpAny (model X.prog X.w) (X.A.mark (some (.ref a))) (eval (.Name x np) X.env) Q E { s' with heap := h3 } := fun {Q E} q => by
      obtain ⟨g1, g2, g3 | ⟨g3, g4, g5⟩⟩ := hc
      · exact ld_glob (X := X.suite a ((a, oe3) :: (X.pn ++ pins))) S3 g1 g3 q g2
      · exact ld_blt (X := X.suite a ((a, oe3) :: (X.pn ++ pins))) S3 g1 g3 g4 q g5 g2
    refine test ((PySem.W.exm_one (M := model X.prog X.w) (J3.kIn) LT hyes1).here ?_)
    refine codeAny_handlers_suite_as ?_
    refine HandSPX.lands_againZ fl3 fun h4 fl4 up4 => ?_
    have J4 : Inv X pins σ' H' { s' with heap := h4 } := J.landed nb fl4.1 ((up.trans up3).trans up4) os ag
    obtain ⟨oe4, vs4, he4, hz4, hd4⟩ := fl4.there
    refine store_ok (X := X.suite a ((a, oe4) :: (X.pn ++ pins))) (v := .ref a) (J4.suite he4 hd4 na nL nF) hN hi (.inl hln) rfl (fun s5 S5 => ?_) (.inr hln)
    refine wpAny_mono ((hsu a oe4 cls d (X.pn ++ pins) hz4 ⟨_, hd4⟩).run [] s5 _ H' _ S5 (hyes a na)) (fun f s6 hsp => ?_) (fun _ _ z => False.elim z)
    have fin : ∀ {σ6 : St} {H6 : Hp} {Q : Shared → Prop}, Inv (X.suite a ((a, oe4) :: (X.pn ++ pins))) [] σ6 H6 s6 → (∀ s7, Inv X pins (σ6.set i none) (upd H6 a (exh a cls d)) s7 → Q s7) →
        wpAny (model X.prog X.w) X.A (do bindName X.env n .none; unbindBehindTheSuite X.env n pos') (fun _ s7 => Q s7) X.xe s6 := fun {σ6 H6 Q} S6 hq => gone_ok (S6.unsuiteK ok) hN hi hln fun s7 J7 => hq s7 (J7.track hd4 hz4 n0 npin)
    cases f with
    | ret u =>
      obtain ⟨v6, σ6, H6, S6, r6, q6⟩ := hsp
      exact fin S6 fun s7 J7 => ⟨_, _, _, J7, r6, q6⟩
    | next =>
      obtain ⟨σ6, H6, S6, q6⟩ := hsp
      exact fin S6 fun s7 J7 => ⟨_, _, J7, q6⟩
    | cont =>
      obtain ⟨σ6, H6, S6, q6⟩ := hsp
      exact fin S6 fun s7 J7 => ⟨_, _, J7, q6⟩
    | brk =>
      obtain ⟨σ6, H6, S6, q6⟩ := hsp
      exact fin S6 fun s7 J7 => ⟨_, _, J7, q6⟩
  · cases f with
    | ret u =>
      obtain ⟨v, σ', H', J', r, q⟩ := hsp
      exact ⟨v, σ', H', J'.ofTry ok, r, q⟩
    | next =>
      obtain ⟨σ', H', J', q⟩ := hsp
      exact wpAny_execs_nil ⟨σ', H', J'.ofTry ok, q⟩
    | cont =>
      obtain ⟨σ', H', J', q⟩ := hsp
      exact ⟨σ', H', J'.ofTry ok, q⟩
    | brk =>
      obtain ⟨σ', H', J', q⟩ := hsp
      exact ⟨σ', H', J'.ofTry ok, q⟩
end
end L2
/-! ### isinstance and fields of such an error -/
namespace PySem.W
open PySem PySem.Calls PyProof.Rows Builtin Builtin.ObjectAttr
section
variable {prog : Program} {w : World} {A : Around} {E : Value → Shared → Prop} {s : Shared} {K : Frag} {x D : Addr} {ox : Obj} {od : Option Obj}
theorem kxc_class {Q : Option Value → Shared → Prop} (C : L2.ExcC K D) (hf : findObj K D od "__class__" = some (.bind (.builtin "getset_descriptor.__get__") (.builtin "object.__class__")))
    (X : K.In s.heap) (I : InstAt s.heap x ox D od) (h : Q (some (.ref D)) { s with toks := s.toks + 1 }) : wpAny (model prog w) A (getAttr? (.ref x) "__class__") Q E s := by
  obtain ⟨hp, g, dr, t, os⟩ := s
  have LT := I.type (M := model prog w)
  have LA := looks_findIn (M := model prog w) X C.hg
  have LB := looks_findIn (M := model prog w) X C.hk
  have LF := looks_find (M := model prog w) X I hf
  have isB : Looks (model prog w) hp (isInstance (.ref x) (.type "BaseException")) true := LT.andThen (looks_subIn X C.hs)
  have q0 : (false && onTheHeap (Value.builtin "BaseException.__getattribute__")) = false := rfl
  have q2 : (Value.builtin "BaseException.__getattribute__" == Value.builtin "object.__getattribute__") = false := by decide +kernel
  have q1 : (onTheHeap (Value.ref D) && Value.builtin "BaseException.__getattribute__" == Value.builtin "object.__getattribute__") = false := by rw [q2]; rfl
  unfold getAttr? getAttrBy? getAttrBy
  refine wpAny_bind (wpAny_mkText (wpAny_bind (wpAny_attempt (wpAny_holding (wpAny_bind (LT.at (wpAny_bind (LA.at ?_))))))))
  show wpAny _ _ (if (onTheHeap (Value.ref D) && Value.builtin "BaseException.__getattribute__" == Value.builtin "object.__getattribute__") = true then _ else _) _ _ _
  rw [q1, if_neg Bool.false_ne_true]
  unfold getAttrByItsOwn hookBefore
  refine wpAny_bind ?_
  rw [if_pos (show onTheHeap (Value.ref D) = true from rfl)]
  refine LB.at (wpAny_bind (wpAny_attempt (wpAny_holding ?_)))
  unfold callGetattribute
  rw [q0, if_neg Bool.false_ne_true]
  unfold boundAndCalled
  rw [PySem.F.excAttr_ValueError.ga.bind (.ref x)]
  refine wpAny_bind (wpAny_pure ?_)
  show wpAny _ _ (call (.builtin "BaseException.__getattribute__") [.ref x, .str "__class__" t]) _ _ _
  refine wpAny_call (codeAny_call_builtin PySem.F.excAttr_ValueError.ga.plain PySem.F.entry_bexc_ga ?_)
  refine @check_slot (model prog w) _ _ ⟨hp, g, dr, t + 1, os⟩ "BaseException.__getattribute__" "BaseException" "__getattribute__" (.ref x) [.str "__class__" t] [] _ (by decide +kernel) (by decide +kernel) isB (PySem.F.args_bexc_ga (.ref x) (.str "__class__" t)) ?_
  unfold Builtin.«object.__getattribute__»
  refine wpAny_bind (wpAny_of_eq (a := ((Value.ref x : Value), [Value.str "__class__" t])) (by first | rfl | (simp only [slotArgs]; rfl)) (wpAny_bind (wpAny_pure (wpAny_bind (LT.at (wpAny_bind (LF.at ?_)))))))
  show wpAny _ _ (holding [Value.builtin "object.__class__"] (call (.builtin "getset_descriptor.__get__") [.builtin "object.__class__", .ref x, .ref D]) >>= ret) _ _ _
  refine wpAny_bind (wpAny_holding (wpAny_call (class_get (s := ⟨hp, g, dr, t + 1, os⟩) (ox := ox) (od := od) X I C.hm (wpAny_pure ?_))))
  show wpAny _ _ (handedOut (.ref D)) _ _ _
  rw [handedOut_of (v := .ref D) rfl]
  first
    | exact wpAny_pure (wpAny_pure h)
    | exact wpAny_pure h
    | exact wpAny_pure (wpAny_bind (wpAny_pure (wpAny_pure h)))
theorem kxc_kit (C : L2.ExcC K D) (hf : findObj K D od "__class__" = some (.bind (.builtin "getset_descriptor.__get__") (.builtin "object.__class__"))) : KitX K (.ref x) (.ref D) (fun h => InstAt h x ox D od) where
  ty := fun _ _ _ I => I.type
  it := fun _ _ X _ => by
    obtain ⟨cd0, hc0, _⟩ := any_some C.hd
    unfold clsIn at hc0
    split at hc0
    · rename_i _ _ _ _ ho
      intro A' Q' E' s' k q
      unfold isType loadHead
      exact wpAny_bind (wpAny_loadPart (k _ _ (X _ _ ho)) (wpAny_pure q))
    · cases hc0
  ne := fun h tp dd its n sl X htp => by
    obtain ⟨cd0, hc0, _⟩ := any_some C.hd
    refine Bool.eq_false_iff.mpr fun q => ?_
    have e : D = tp := Value.ref.inj (beq_iff_eq.mp q)
    subst e
    unfold clsIn at hc0
    split at hc0
    · rename_i _ _ _ _ ho
      have z := (X _ _ ho).symm.trans htp
      cases z
    · cases hc0
  ca := fun X I k => kxc_class C hf X I k
end
end PySem.W
namespace L2
open PySem PySem.Spec PyProof.Rows
section
variable {X : Cx} {pins : List (Addr × Obj)} {σ : St} {H : Hp} {s : Shared}
theorem exh_inst {K : PySem.W.Frag} {a D : Addr} {d : Option Addr} {fs : List (Str × V)} (I : Inv X pins σ H s) (ea : H a = some (exh a (.ref D) d)) (ed : ∀ dd, d = some dd → H dd = some (.xd fs)) :
    ∃ (oe : Obj) (od : Option Obj), PySem.W.InstAt s.heap a oe D od ∧ (d.isSome = od.isSome) ∧ ∀ name, d.isSome = true → ∃ m : Str → Option Value, PySem.W.lookIn name (od.getD oe) = some (m name) ∧ ∀ f, RelO (fs.lookup f) (m f) := by
  obtain ⟨oe, hoe, ⟨z1, z2⟩, vs, hd⟩ := exh_at I.hok ea
  have nc : PySem.W.notCls oe = true := by unfold PySem.W.notCls; rw [hd] <;> rfl
  cases d with
  | none => exact ⟨oe, none, ⟨hoe, z1, nc, by rw [z2]; exact True.intro⟩, rfl, fun _ z => nomatch z⟩
  | some dd =>
    have hx : ObjOk X.prog X.w H s.heap dd (.xd fs) := I.hok dd _ (ed dd rfl)
    obtain ⟨mA, hns, hr⟩ := hx
    obtain ⟨od, ho, hl⟩ := lookIn_ns hns
    exact ⟨oe, some od, ⟨hoe, z1, nc, by rw [z2]; exact ho⟩, rfl, fun name _ => ⟨mA, hl name, hr⟩⟩
end
/-- isinstance(e, c), e an error that was caught and kept -/
def rIsK (K : PySem.W.Frag) : List V → Hp → VK → Prop := fun xs H Q => ∃ (a D dd : Addr) (fs : List (Str × V)) (c : V) (cv : Value) (b : Bool), xs = [.ref a, c] ∧ ClsV c cv ∧ H a = some (exh a (.ref D) (some dd)) ∧ H dd = some (.xd fs) ∧ ExcC K D ∧ PySem.W.kitOne K (.ref D) cv = some b ∧ Q (.bl b) H
theorem call_isK {X : Cx} : CallR X (.builtin "isinstance") (rIsK X.K) := by
  intro pins s σ H xs us Q I r h
  obtain ⟨a, D, dd, fs, c, cv, b, rfl, hcv, ea, ed, C, e, q⟩ := h
  obtain ⟨u1, u2, rfl, r1, r2⟩ := vals2 r
  cases (show u1 = Value.ref a from r1)
  have ec := hcv.eq r2
  subst ec
  obtain ⟨oe, od, J, hd, _⟩ := exh_inst (K := X.K) I ea (fun d' e' => by cases e'; exact ed)
  cases od with
  | none => cases hd
  | some od =>
    have hf := PySem.W.findObj_data (K := X.K) (C := D) (od := od) (name := "__class__") (by obtain ⟨cd, hc, _⟩ := PySem.W.any_some C.hd; rw [hc]; rfl) C.ha C.hn C.ht
    exact PySem.W.kia_one (PySem.W.kxc_kit C hf) I.kIn J e (fun z => nomatch z) fun tk => ⟨.bl b, H, I.tok tk, rfl, q⟩
/-- e.f, e such an error -/
def tXk (K : PySem.W.Frag) (te : TE) (f : Str) : TE := fun σ H Q => te σ H fun x H1 => ∃ (a C dd : Addr) (fs : List (Str × V)) (v : V), x = .ref a ∧ H1 a = some (exh a (.ref C) (some dd)) ∧ H1 dd = some (.xd fs) ∧ XfC K C ∧ PySem.W.findIn K (.ref C) f = some none ∧ fs.lookup f = some v ∧ Q v H1
theorem pe_xk {X : Cx} {e : Expr} {te : TE} {pos : Pos} {n : Str} (he : PE X e te) (hb : attributeBase e n X.env (eval e X.env) = eval e X.env := by rfl) : PE X (.Attribute e n pos) (tXk X.K te n) := by
  refine ⟨fun pins s σ H Q I h => attr_of hb (thn (he.run pins s σ H _ I h) fun u s1 hh => ?_)⟩
  obtain ⟨x, H1, I1, rx, a, C, dd, fs, v, ex, ea, ed, T, hno, l, q⟩ := hh
  subst ex
  obtain rfl : u = Value.ref a := rx
  obtain ⟨oe, od, J, hd, hl⟩ := exh_inst (K := X.K) I1 ea (fun d' e' => by cases e'; exact ed)
  cases od with
  | none => cases hd
  | some od =>
    obtain ⟨m, h1, h2⟩ := hl n rfl
    obtain ⟨u, hu, ru⟩ := RelO.some_of (v := v) (o := m n) (by rw [← l]; exact h2 n)
    exact HandSPX.exc_get I1.kIn J T.ga T.gg T.exC (PySem.W.findObj_own T.hdC hno rfl (by rw [← hu]; exact h1)) (handed_of ru) ⟨v, H1, I1.tok _, ru, q⟩
end L2

/-! repr of data: it asks which reprs are under way; a def's promise where none is. -/
namespace L2
open PySem PySem.Spec PyProof.Rows
/-- a promise that holds where no repr is under way -/
structure FnG (P : Program) (w : World) (K : PySem.W.Frag) (mg : Str → Option Value) (base : Heap) (CX : CXT) (k : Nat) (f : Addr) (fd : FuncData) (ps : List Str) (sp : Sp) : Prop where
  len : ∀ vs H Q E, sp vs H Q E → vs.length = ps.length
  run : ∀ (A : Around) (outer : List Env) (s : Shared) (H : Hp) (args : Args) (us : List Value) (vs : List V) (Q : VK) (E : XK), Room k A → A.guards = some [] → Env0 P w K mg base A outer s H → BindsTo s fd args (ps.zip us) → Vals vs us → sp vs H Q E →
    codeAny (model P w) A (.call (.ref f) args) (CR CX outer P w H s Q E) s
theorem FnOk.g {P : Program} {w : World} {K : PySem.W.Frag} {mg : Str → Option Value} {base : Heap} {CX : CXT} {k : Nat} {f : Addr} {fd : FuncData} {ps : List Str} {sp : Sp} (F : FnOk P w K mg base CX k f fd ps sp) : FnG P w K mg base CX k f fd ps sp :=
  ⟨F.len, fun A outer s H args us vs Q E hr _ => F.run A outer s H args us vs Q E hr⟩
section
variable {P : Program} {w : World} {K : PySem.W.Frag} {mg : Str → Option Value} {base : Heap}
theorem Fun.okG {x qual : Str} {st : Stmt} {f : Addr} {fd : FuncData} {N ps : List Str} {k : Nat} {sp : Sp} (F : Fun K x qual st f fd) (S : FnScope N ps (defScope st)) (len : ∀ vs H Q E, sp vs H Q E → vs.length = ps.length)
    (hbody : ∀ (cdv : Value) (A : Around) (outer : List Env) (s : Shared) (H : Hp) (vs : List V) (Q : VK) (E : XK), Room k (A.deeper (envOfC qual (defScope st) s.heap.objs.size f cdv)) → A.guards = some [] → sp vs H Q E →
      ∃ t, PSs (cxOf CX0 P w K mg base N qual (defScope st) f cdv A outer s H E).nox (defBody st) t ∧ t { nx := fun _ H' => Q .non H', rt := Q } (start N vs) H) : FnG P w K mg base CX0 (k + 1) f fd ps sp := by
  obtain ⟨oc, od, kV, doc, pm, an, cdv, ct, osl, rfl, lk, hcd⟩ := F.ex
  refine ⟨len, fun A outer s H args us vs Q E hr hg e0 hb r hsp => LamX.run_ofS lk hcd S hr e0 hb r (len _ _ _ _ hsp) fun hr' => ?_⟩
  obtain ⟨t, h, q⟩ := hbody cdv A outer s H vs Q E hr' hg hsp
  exact ⟨t, h.nox, q⟩
end
section
variable {X : Cx} {CX : CXT} {k : Nat} {f : Addr} {fd : FuncData} {ps : List Str} {sp : Sp} {E : XK} {x : Str} {ds : List Value} {dvs : List V} {e : Expr} {es : List Expr} {t : TA} {p pos : Pos}
theorem run_fnG {pins : List (Addr × Obj)} {σ : St} {H : Hp} {s : Shared} {Q : VK} {us : List Value} {vs : List V} (hG : X.A.guards = some []) (F : FnG X.prog X.w X.K X.mg X.base CX k f fd ps sp) (hr : Room k X.A) (hb : Binds X.K fd ps ds) (hd : Vals dvs ds)
    (hx : Passes CX X E) (I : Inv X pins σ H s) (r : Vals vs us) (h : sp (vs ++ dvs) H Q E) : wpAny (model X.prog X.w) X.A (call (.ref f) us) (EP X pins σ Q) X.xe s := by
  have rr : Vals (vs ++ dvs) (us ++ ds) := r.append hd
  have hlen : (us ++ ds).length = ps.length := by rw [← rr.length]; exact F.len _ _ _ _ h
  refine wpAny_call (codeAny_mono (F.run X.A X.stack s H ⟨us, []⟩ (us ++ ds) (vs ++ dvs) Q E hr hG I.env0 (hb s us I.kIn hlen) rr h) fun r s' hq => ?_)
  cases r with
  | error e => exact hx pins σ H s e s' I hq
  | ok fl =>
    cases fl with
    | ret u => exact I.after hq
    | next => exact False.elim hq
    | brk => exact False.elim hq
    | cont => exact False.elim hq
theorem pe_callG (hG : X.A.guards = some []) (F : FnG X.prog X.w X.K X.mg X.base CX k f fd ps sp) (hr : Room k X.A) (hg : Gl X x) (hm : X.mg x = some (.ref f)) (hk : PySem.W.keepIn X.K (.ref f) = true) (hb : Binds X.K fd ps ds) (hd : Vals dvs ds) (hx : Passes CX X E)
    (ha : PA X (e :: es) t) (hdb : (x == ("__debug__" : Str)) = false := by decide) (he : starEach (e :: es) X.env = (false, eval e X.env) :: starEach es X.env := by rfl) (hpl : (backTo pos (starEach es X.env)).any (·.1) = false := by rfl) :
    PE X (.Call (.Name x p) (e :: es) [] pos) (tCall sp dvs E t) := by
  refine ⟨fun pins s σ H Q I h => wpAny_Call_Name_kw (ld_glob I hg hm ?_ hdb)⟩
  refine PySem.W.callWith_K (h₀ := X.base) I.ok.mod.kin hk (thn (ha.run pos pins s σ H _ I h) fun us s1 ⟨vs, H1, I1, r, q⟩ => ⟨I1.kIn, run_fnG hG F hr hb hd hx I1 r q⟩) he hpl
/-- repr of a list or tuple of data -/
def rRepr (K : PySem.W.Frag) : List V → Hp → VK → Prop := fun xs H Q => ∃ (a : Addr) (d : PyData), xs = [.ref a] ∧ Dp K H (.ref a) d ∧ d.showable = true ∧ d.hasDict = false ∧ d.depth ≤ 64 ∧ d.shown.length ≤ sizeLine ∧ Q (.str d.shown) H
theorem c_repr (hG : X.A.guards = some []) (hu : X.A.units + 128 < cLine) : CallR X (.builtin "repr") (rRepr X.K) := by
  intro pins s σ H xs us Q I r h
  obtain ⟨a, d, rfl, hd, h1, h2, h3, h4, q⟩ := h
  obtain ⟨u, rfl, rx⟩ := vals1 r
  cases (show u = Value.ref a from rx)
  obtain ⟨as, hr⟩ := Dp.reads I d _ _ hd rx
  refine repr_of_reads' hr h1 (fun z => by rw [h2] at z; cases z) hG (by omega) (fun _ _ z => z) (fun h' u tk hk => ?_) h4
  exact ⟨.str d.shown, H, I.kept hk, ⟨u, rfl⟩, q⟩
end
end L2

namespace LamX
open PySem PySem.Spec PyProof.Rows L2
theorem law_callG {P : Program} {w : World} {K : PySem.W.Frag} {mg mBlt : Str → Option Value} {CX : CXT} {k : Nat} {fLaw a : Addr} {tabs : List (Addr × Addr)} {fdLaw : FuncData} {x : Str} {spc : Sp} {s₁ : Shared} {items : List Value} {nums : List Int}
    (KH : K.In s₁.heap) (nsG : s₁.heap.Ns mainGlobals mg) (hB2 : s₁.heap.Ns builtinsNs mBlt) (bltB : ∀ x : Str, x ≠ "__name__" → mBlt x = bootBuiltins x) (limG : s₁.heap.NoLimit) (gnE : s₁.gens = #[])
    (tabE : ∀ p ∈ tabs, s₁.heap.get? p.2 = some { cls := .none, data := .fields #[] }) (tabK : ∀ p ∈ tabs, K.lookup p.2 = none) (cdE : ∀ p ∈ tabs, PySem.W.CodeHd s₁.heap p.1 p.2)
    (bmE : ∃ (bmA : Addr) (obj : Obj), mg "__builtins__" = some (.ref bmA) ∧ bmA ≠ builtinsNs ∧ s₁.heap.get? bmA = some obj ∧ obj.cls = .type "module" ∧ obj.dict = some builtinsNs ∧ obj.data = .plain)
    (scE : s₁.heap.get? a = some { cls := .type "list", data := .seq items.toArray }) (inE : IntsAre items nums) (lnE : nums.length ≤ sizeLine) (rmE : Room k callerA)
    (FF : ∀ base : Heap, K.In base → base.Ns mainGlobals mg → (∀ p ∈ tabs, TabB base mg p.1 p.2) → L2.FnG P w K mg base CX k fLaw fdLaw [x] spc) (bdE : ∀ (s : Shared) (u : Value), BindsTo s fdLaw ⟨[u], []⟩ [(x, u)])
    (spE : ∀ H : Hp, (∀ p ∈ tabs, H p.2 = some (.tbl #[])) → SqL K H a (nums.map V.int) → spc [.ref a] H (fun v _ => v = .bl true) fun _ _ _ => False)
    (cxE : ∀ H e s', CX [] H s₁ (fun _ _ _ => False) e s' → False) :
    codeAny (model P w) callerA (.call (.ref fLaw) ⟨[.ref a], []⟩) (fun r s' => r = .ok (.ret (.bool true)) ∧ OldK s₁.heap s'.heap ∧ s'.os = s₁.os ∧ AllBare s'.gens) s₁ := by
  have rvs := vals_ints inE
  have lenW := inE.length
  have isTb : ∀ b : Addr, b ∈ tabs.map (·.2) → s₁.heap.get? b = some { cls := .none, data := .fields #[] } := fun b hB2 => by
    obtain ⟨p, memP, e⟩ := List.mem_map.mp hB2
    rw [← e]
    exact tabE p memP
  have notTb : a ∉ tabs.map (·.2) := fun zq => by
    have qq := isTb a zq
    rw [scE] at qq
    have z' : Data.seq items.toArray _ = Data.fields #[] := congrArg Obj.data (Option.some.inj qq)
    cases z'
  have inTb : ∀ p ∈ tabs, p.2 ∈ tabs.map (·.2) := fun p memP => List.mem_map.mpr ⟨p, memP, rfl⟩
  -- from an abstract heap in which nothing but the script and the tables may be tracked
  have main0 : ∀ H : Hp, (∀ p ∈ tabs, H p.2 = some (.tbl #[])) → (∀ b, H b = none ∨ b ∈ tabs.map (·.2) ∨ ∃ o xs, H b = some (.frz o (.lst xs))) → SqL K H a (nums.map V.int) → HOk P w H s₁.heap → (∀ b, H b ≠ none → b = a ∨ b ∈ tabs.map (·.2)) → (H a ≠ none → K.lookup a = none) →
      codeAny (model P w) callerA (.call (.ref fLaw) ⟨[.ref a], []⟩) (fun r s' => r = .ok (.ret (.bool true)) ∧ OldK s₁.heap s'.heap ∧ s'.os = s₁.os ∧ AllBare s'.gens) s₁ := by
    intro H Htab Hone Hscr Hok0 Hall HKn
    have toBase : ∀ {b : Addr} {o : Obj}, s₁.heap.get? b = some o → H b = none → (hidT s₁.heap H).get? b = some o := fun e n => hidT_get e n
    have notD : ∀ {b : Addr} {o : Obj}, s₁.heap.get? b = some o → (∀ items n, o.data ≠ .seq items n) → o.data ≠ .fields #[] → H b = none := fun {b o} e h11 hh => by
      cases qq : H b with
      | none => rfl
      | some u =>
        rcases Hall b (by rw [qq]; simp) with e' | e'
        · rw [e', scE] at e
          cases e
          exact (h11 _ _ rfl).elim
        · rw [isTb b e'] at e
          cases e
          exact (hh rfl).elim
    have notA : ∀ {b : Addr} {o : Obj} {es : Array DictEntry} {epp : Nat}, s₁.heap.get? b = some o → o.data = .dict es epp → H b = none := fun {b o es epp} e d => by
      refine notD e (fun items n zq => ?_) fun zq => ?_
      · rw [d] at zq
        cases zq
      · rw [d] at zq
        cases zq
    have nsB0 : ∀ {b : Addr} {m : Str → Option Value}, s₁.heap.Ns b m → (hidT s₁.heap H).Ns b m := fun {b m} ⟨o, es, epp, e, d, r⟩ => ⟨o, es, epp, toBase e (notA e d), d, r⟩
    have KBase : K.In (hidT s₁.heap H) := fun b o e => toBase (KH b o e) (by
      cases qq : H b with
      | none => rfl
      | some u =>
        rcases Hall b (by rw [qq]; simp) with e' | e'
        · rw [e'] at e qq
          rw [HKn (by rw [qq]; simp)] at e
          cases e
        · obtain ⟨p, memP, epp⟩ := List.mem_map.mp e'
          rw [← epp, tabK p memP] at e
          cases e)
    have modB : L2.Mod K mg (hidT s₁.heap H) := ⟨KBase, nsB0 nsG, ⟨mBlt, nsB0 hB2, bltB⟩, let ⟨mc, h11, hh⟩ := limG; ⟨mc, nsB0 h11, hh⟩⟩
    have tabB0 : ∀ p ∈ tabs, TabB (hidT s₁.heap H) mg p.1 p.2 := fun p memP => by
      have hTp := tabE p memP
      refine ⟨?_, ?_, fun zq => ?_⟩
      · obtain ⟨o, uus, file, tf, flags, tg, inF, text, tt, e1, r1, r2, r3, r4, r5, r6, r7, r8, hne⟩ := cdE p memP
        refine ⟨o, uus, file, tf, flags, tg, inF, text, tt, toBase e1 (notD e1 (fun items n zq => ?_) fun zq => ?_), r1, r2, r3, r4, r5, r6, r7, r8, hne⟩
        · rw [r2] at zq
          cases zq
        · rw [r2] at zq
          cases zq
          simp at r3
      · obtain ⟨bmA, obj, b1, b2, b3, b4, b5, b6⟩ := bmE
        have nG : bmA ≠ mainGlobals := fun qq => by
          obtain ⟨o, es, epp, e, hd, _⟩ := nsG
          rw [qq, e] at b3
          cases b3
          rw [hd] at b6
          cases b6
        have nP : bmA ≠ p.2 := fun qq => by
          rw [qq, hTp] at b3
          cases b3
          cases b6
        refine ⟨bmA, obj, b1, b2, nG, nP, toBase b3 (notD b3 (fun items n zq => ?_) fun zq => ?_), b4, b5, b6⟩
        · rw [b6] at zq
          cases zq
        · rw [b6] at zq
          cases zq
      · obtain ⟨o, es, epp, e, hd, _⟩ := nsG
        rw [zq, hTp] at e
        cases e
        cases hd
    have env0 : Env0 P w K mg (hidT s₁.heap H) callerA [] s₁ H := ⟨rfl, modB, fun b o e => of_hidT e, Nat.le_of_eq (hidT_size _ _), trivial, fun b hB2 => absurd (show b ∈ ([] : List Addr) from hB2) (by simp), Hok0, .of_eq gnE⟩
    refine codeAny_mono ((FF _ KBase (nsB0 nsG) tabB0).run callerA [] s₁ H ⟨[.ref a], []⟩ [.ref a] [.ref a] _ _ rmE rfl env0 (bdE s₁ (.ref a)) (.cons rfl .nil) (spE H Htab Hscr)) fun r s' h => ?_
    cases r with
    | error e => exact (cxE H e s' h).elim
    | ok fl =>
      cases fl with
      | next => exact False.elim h
      | brk => exact False.elim h
      | cont => exact False.elim h
      | ret u =>
        obtain ⟨v, H', osE, bareE, unk, Hok1, r', qq⟩ := h
        have q' : v = .bl true := qq
        subst q'
        obtain rfl : u = Value.bool true := r'
        have kept0 : ∀ b o, b ∉ tabs.map (·.2) → s₁.heap.get? b = some o → s'.heap.get? b = some o := fun b o nb e => by
          cases qq : H b with
          | none => exact unk.keep b o e qq (by intro zq; exact absurd (show b ∈ ([] : List Addr) from zq) (by simp)) (by simp)
          | some u =>
            rcases Hone b with zq | zq | ⟨obj, xs, zq⟩
            · rw [qq] at zq; cases zq
            · exact absurd zq nb
            · have zz := unk.frzs b obj _ zq
              obtain ⟨e1, _⟩ := Hok0 b _ zq
              obtain ⟨ee, _⟩ := Hok1 b _ zz
              rw [e] at e1; cases e1
              exact ee
        have grew : ∀ p ∈ tabs, ∃ rest : Array Value, s'.heap.get? p.2 = some { cls := .none, data := .fields rest } := fun p memP => by
          obtain ⟨rest, zq⟩ := unk.tbls p.2 #[] (Htab p memP)
          exact ⟨_, Hok1 p.2 _ zq⟩
        refine ⟨rfl, ⟨fun b o e => ?_, fun b o e => ?_⟩, osE, bareE⟩
        · by_cases hB2 : b ∈ tabs.map (·.2)
          · obtain ⟨p, memP, epp⟩ := List.mem_map.mp hB2
            obtain ⟨rest, hmo⟩ := grew p memP
            rw [← epp] at e ⊢
            rw [tabE p memP] at e
            cases e
            exact .inr (.inl ⟨((cdE p memP).tab (tabE p memP)).isCodeTable, rfl, #[], rest, rfl, by rw [Array.empty_append]; exact hmo⟩)
          · exact .inl (kept0 b o hB2 e)
        · by_cases hB2 : b ∈ tabs.map (·.2)
          · obtain ⟨p, memP, epp⟩ := List.mem_map.mp hB2
            obtain ⟨rest, hmo⟩ := grew p memP
            rw [← epp]
            exact ⟨_, hmo⟩
          · exact ⟨o, kept0 b o hB2 e⟩
  cases lookE : K.lookup a with
  | some o =>
    have e := KH a o lookE
    rw [scE] at e
    cases e
    refine main0 (fun b => if b ∈ tabs.map (·.2) then some (.tbl #[]) else none) (fun p memP => if_pos (inTb p memP)) (fun b => ?_) (.inr ⟨_, items.toArray, _, lookE, rfl, rfl, rfl, by rw [List.size_toArray, lenW]; exact lnE, by simpa using rvs⟩) (fun b u zq => ?_) (fun b zq => ?_) fun zq => absurd (show (if a ∈ tabs.map (·.2) then some (HO.tbl #[]) else none) = none from if_neg notTb) zq
    · by_cases hB2 : b ∈ tabs.map (·.2)
      · exact .inr (.inl hB2)
      · exact .inl (if_neg hB2)
    · by_cases hB2 : b ∈ tabs.map (·.2)
      · have z' := (if_pos hB2).symm.trans zq
        cases z'
        exact isTb b hB2
      · have z' := (if_neg hB2).symm.trans zq
        cases z'
    · by_cases hB2 : b ∈ tabs.map (·.2)
      · exact .inr hB2
      · exact absurd (if_neg hB2) zq
  | none =>
    refine main0 (fun b => if b = a then some (.frz { cls := .type "list", data := .seq items.toArray } (.lst (nums.map V.int))) else if b ∈ tabs.map (·.2) then some (.tbl #[]) else none) (fun p memP => (if_neg (show ¬ p.2 = a from fun zq => notTb (by rw [← zq]; exact inTb p memP))).trans (if_pos (inTb p memP))) (fun b => ?_)
      (.inl (.inr ⟨{ cls := .type "list", data := .seq items.toArray }, if_pos rfl⟩)) (fun b u zq => ?_) (fun b zq => ?_) fun _ => lookE
    · by_cases hB2 : b = a
      · exact .inr (.inr ⟨_, _, if_pos hB2⟩)
      · by_cases hb2 : b ∈ tabs.map (·.2)
        · exact .inr (.inl hb2)
        · exact .inl ((if_neg hB2).trans (if_neg hb2))
    · by_cases hB2 : b = a
      · have z' := (if_pos hB2).symm.trans zq
        cases z'
        rw [hB2]
        exact ⟨scE, by rw [List.length_map]; exact lnE, items, _, rvs, scE⟩
      · have z1 := (if_neg hB2).symm.trans zq
        by_cases hb2 : b ∈ tabs.map (·.2)
        · have z' := (if_pos hb2).symm.trans z1
          cases z'
          exact isTb b hb2
        · have z' := (if_neg hb2).symm.trans z1
          cases z'
    · by_cases hB2 : b = a
      · exact .inl hB2
      · by_cases hb2 : b ∈ tabs.map (·.2)
        · exact .inr hb2
        · exact absurd ((if_neg hB2).trans (if_neg hb2)) zq
/-- what is known of the law's promise at the head's heap h -/
def LawAtG (l : PySem.W.OpenLaw) (w : World) (K : PySem.W.Frag) (CX : CXT) (k n : Nat) (x : Str) (mg : Str → Option Value) (fLaw : Addr) (h : Heap) : Prop :=
  ∃ (fdLaw : FuncData) (tabs : List (Addr × Addr)) (spc : Sp), (∀ p ∈ tabs, h.get? p.2 = some { cls := .none, data := .fields #[] }) ∧ (∀ p ∈ tabs, K.lookup p.2 = none) ∧ (∀ p ∈ tabs, PySem.W.CodeHd h p.1 p.2) ∧ (∀ (s : Shared) (u : Value), BindsTo s fdLaw ⟨[u], []⟩ [(x, u)]) ∧
    (∀ (H : Hp) (a : Addr) (nums : List Int), nums.length ≤ n → (∀ zq ∈ nums, Builtin.Int.intBits zq ≤ 1048576) → (∀ p ∈ tabs, H p.2 = some (.tbl #[])) → SqL K H a (nums.map V.int) → spc [.ref a] H (fun v _ => v = .bl true) fun _ _ _ => False) ∧
    ∀ base : Heap, K.In base → base.Ns mainGlobals mg → (∀ p ∈ tabs, TabB base mg p.1 p.2) → L2.FnG l.prog w K mg base CX k fLaw fdLaw [x] spc
theorem walk_ofG {l : PySem.W.OpenLaw} {n k : Nat} {qq : Program} {loose : List Str} {XP : (Str → Option Value) → Heap → Prop} {YP : World → Heap → Prop} {d : DefRec} {K : Params → PySem.W.Frag} {CX : World → CXT} {x : Str}
    (hn : l.most = some n) (hn2 : n ≤ sizeLine) (hdf : d.params.defaults = []) (rmE : Room k callerA) (hY : ∀ (w : World) (h : Heap), YP w h → (K w.params).In h)
    (FF : ∀ (w : World) (mg : Str → Option Value) (fLaw : Addr) (h : Heap), YP w h → (K w.params).In h → h.Ns mainGlobals mg → mg d.name = some (.ref fLaw) → LawAtG l w (K w.params) (CX w) k n x mg fLaw h)
    (cxE : ∀ (w : World) (H : Hp) (s : Shared) (e : Value) (s' : Shared), CX w [] H s (fun _ _ _ => False) e s' → False) :
    PySem.W.WalkO qq loose XP YP l.row.toRowW d [] (fun f items => PySem.call f items) := by
  refine Att.attach_callB hn hdf fun w s₀ s₁ mg mBlt fLaw o pm cd doc a items nums G Y ho hd hcd hmg hobj hints hlen hbits gnE => ?_
  have KH := hY w _ Y
  obtain ⟨fdLaw, tabs, spc, tabE, tabK, cdE, hB2, spE, hF⟩ := FF w mg fLaw _ Y KH G.T.g hmg
  exact law_callG KH G.T.g G.T.b G.T.builtins G.T.nolimit gnE tabE tabK cdE G.T.bmain hobj hints (Nat.le_trans hlen hn2) rmE hF hB2 (fun H Htab Hscr => spE H a nums hlen hbits Htab Hscr) fun H e s' => cxE w H s₁ e s'
end LamX

/-! len(x), str(x) of an own class. -/
namespace L2
open PySem PySem.Spec PyProof.Rows
section
variable {X : Cx} {CX : CXT} {k : Nat} {f C : Addr} {fd : FuncData} {ps : List Str} {sp : Sp}
/-- a special method of the class -/
structure SpM (K : PySem.W.Frag) (C f : Addr) (name : Str) : Prop where
  hs : PySem.W.findIn K (.ref C) name = some (some (.ref f))
  hf : PySem.W.isFn K (.ref f) = true
def rLenO (C : Addr) (sp : Sp) : List V → Hp → VK → Prop := fun xs H Q => ∃ a dx fs, xs = [.ref a] ∧ H a = some (.ins C dx fs) ∧ sp [.ref a] H (fun v H' => ∃ n : Int, v = .int n ∧ (0 ≤ n ∧ n < 2 ^ 63) ∧ Q (.int n) H') (fun _ _ _ => False)
theorem c_lenO (M : SpM X.K C f "__len__") (F : FnOk X.prog X.w X.K X.mg X.base CX k f fd ps sp) (hr : Room (k + 1) X.A) (hb : Binds X.K fd ps []) (hx : Passes CX X (fun _ _ _ => False)) : CallR X (.builtin "len") (rLenO C sp) := by
  intro pins s σ H xs us Q I r h
  obtain ⟨a, dx, fs, rfl, ha, hq⟩ := h
  obtain ⟨u, rfl, rx⟩ := vals1 r
  cases (show u = Value.ref a from rx)
  obtain ⟨_, J, _⟩ := ins_get I.hok ha
  obtain ⟨_, J, _⟩ := J.look
  obtain ⟨_, hF⟩ := I.fr
  refine PySem.W.len_K hF I.ok.mod.kin J M.hs M.hf (wpAny_mono (callA (A := X.A.in1) (vs := [.ref a]) F hr.in1 rfl hb hx I (.cons rfl .nil) hq) (fun z s' hz => ?_) fun _ _ z => z)
  obtain ⟨v', H', I', rv, n, e, hn, q⟩ := hz
  subst e
  obtain ⟨t, rfl⟩ := (show ∃ t, z = Value.int n t from rv)
  exact ⟨hn, .int n, H', I'.tok _, ⟨_, rfl⟩, q⟩
def rStrO (C : Addr) (sp : Sp) : List V → Hp → VK → Prop := fun xs H Q => ∃ a dx fs, xs = [.ref a] ∧ H a = some (.ins C dx fs) ∧ sp [.ref a] H (fun v H' => ∃ x : Str, v = .str x ∧ Q (.str x) H') (fun _ _ _ => False)
theorem c_strO (M : SpM X.K C f "__str__") (F : FnOk X.prog X.w X.K X.mg X.base CX k f fd ps sp) (hr : Room (k + 2) X.A) (hb : Binds X.K fd ps []) (hx : Passes CX X (fun _ _ _ => False)) : CallR X (.type "str") (rStrO C sp) := by
  intro pins s σ H xs us Q I r h
  obtain ⟨a, dx, fs, rfl, ha, hq⟩ := h
  obtain ⟨u, rfl, rx⟩ := vals1 r
  cases (show u = Value.ref a from rx)
  obtain ⟨_, J, _⟩ := ins_get I.hok ha
  obtain ⟨_, J, _⟩ := J.look
  have hu := hr.un
  refine PySem.W.kso_call (by show X.A.units + 1 + 1 < cLine; omega) I.kIn J M.hs M.hf (wpAny_mono (callA (A := X.A.in1.in1) (vs := [.ref a]) F hr.in1.in1 rfl hb hx I (.cons rfl .nil) hq) (fun z s' hz => ?_) fun _ _ z => z)
  obtain ⟨v', H', I', rv, x, e, q⟩ := hz
  subst e
  obtain ⟨t, rfl⟩ := (show ∃ t, z = Value.str x t from rv)
  exact ⟨.str x, H', I', ⟨_, rfl⟩, q⟩
end
end L2

/-! Abstract rules for own classes, errors, lambdas, pens. -/
namespace L2
open PySem PySem.Spec PyProof.Rows
/-- as Fun.okG, the code object told -/
theorem Fun.okGC {P : Program} {w : World} {K : PySem.W.Frag} {mg : Str → Option Value} {base : Heap} {x qual : Str} {st : Stmt} {f : Addr} {fd : FuncData} {N ps : List Str} {k : Nat} {sp : Sp} (F : Fun K x qual st f fd) (S : FnScope N ps (defScope st)) (len : ∀ vs H Q E, sp vs H Q E → vs.length = ps.length)
    (hb : ∀ (A : Around) (outer : List Env) (s : Shared) (H : Hp) (vs : List V) (Q : VK) (E : XK), Room k (A.deeper (envOfC qual (defScope st) s.heap.objs.size f fd.code)) → A.guards = some [] → sp vs H Q E →
      ∃ t, PSs (cxOf CX0 P w K mg base N qual (defScope st) f fd.code A outer s H E).nox (defBody st) t ∧ t { nx := fun _ H' => Q .non H', rt := Q } (start N vs) H) : FnG P w K mg base CX0 (k + 1) f fd ps sp := by
  obtain ⟨oc, od, kV, doc, pm, an, cdv, ct, osl, rfl, lk, hcd⟩ := F.ex
  refine ⟨len, fun A outer s H args us vs Q E hr hg e0 hbd r hsp => LamX.run_ofS lk hcd S hr e0 hbd r (len _ _ _ _ hsp) fun hr' => ?_⟩
  obtain ⟨t, h, q⟩ := hb A outer s H vs Q E hr' hg hsp
  exact ⟨t, h.nox, q⟩
end L2
namespace AW
open PySem PySem.Spec PyProof.Rows L2 LamX ClX
theorem both_nt {A B : Prop} (h : B) : ((!true) = true → A) ∧ ((!true) = false → B) := ⟨fun z => Bool.noConfusion z, fun _ => h⟩
theorem both_nf {A B : Prop} (h : A) : ((!false) = true → A) ∧ ((!false) = false → B) := ⟨fun _ => h, fun z => Bool.noConfusion z⟩
theorem bor_t {A B : Prop} (h : B) : (true = false → A) ∧ (true = true → B) := ⟨fun z => Bool.noConfusion z, fun _ => h⟩
theorem bor_f {A B : Prop} (h : A) : (false = false → A) ∧ (false = true → B) := ⟨fun _ => h, fun z => Bool.noConfusion z⟩
theorem bor_nt {A B : Prop} (h : A) : ((!true) = false → A) ∧ ((!true) = true → B) := ⟨fun _ => h, fun z => Bool.noConfusion z⟩
theorem bor_nf {A B : Prop} (h : B) : ((!false) = false → A) ∧ ((!false) = true → B) := ⟨fun z => Bool.noConfusion z, fun _ => h⟩
theorem keep2 {kn : Hp} {a q : Addr} {o : HO} {u : HO} (h : a ≠ q) (e : kn a = some u) : upd kn q o a = some u := by
  rw [upd_ne h]
  exact e
section
variable {K : PySem.W.Frag} {H H' : Hp} {x : V} {t : Value}
theorem tyof_ext (e : Ext H H') (h : TyOf K H x t) : TyOf K H' x t := by
  cases h with
  | non => exact .non
  | bl x => exact .bl x
  | int i => exact .int i
  | str x => exact .str x
  | flt x => exact .flt x
  | lst h => exact .lst (e _ _ h)
  | frz h => exact .frz (e _ _ h)
  | tup h => exact .tup (e _ _ h)
  | dK h => exact .dK (e _ _ h)
  | dT h => exact .dT (e _ _ h)
  | ins h a b c d m => exact .ins (e _ _ h) a b c d m
theorem tyx_ext (e : Ext H H') (h : TyX K H x t) : TyX K H' x t := by
  cases h with
  | base b => exact .base (tyof_ext e b)
  | byt b => exact .byt b
  | set h => exact .set (e _ _ h)
  | kList h c => exact .kList h c
  | kTuple h c => exact .kTuple h c
  | kDict h c => exact .kDict h c
  | fTuple h => exact .fTuple (e _ _ h)
  | fDict h => exact .fDict (e _ _ h)
end
/-- the wish of errors -/
abbrev EAK := Value → Option Addr → Hp → Nat → Prop
def ErrOk (c : Cw) (EA : EAK) (E : XK) : Prop := ∀ cls d kn' n' H', EA cls d kn' n' → Good c kn' n' H' → E cls d H'
theorem err_no {c : Cw} {E : XK} : ErrOk c (fun _ _ _ _ => False) E := fun _ _ _ _ _ h => h.elim
abbrev bodyX (c : Cw) (E : XK) : EAK := fun cls d kn n => ∀ H', Good c kn n H' → E cls d H'
theorem err_body {c : Cw} {E : XK} : ErrOk c (bodyX c E) E := fun _ _ _ _ H' h g => h H' g
section
variable {c : Cw} {kn : Hp} {n : Nat} {σ : L2.St} {Q : V → Hp → Nat → Prop} {K : PySem.W.Frag} {E : XK} {EA : EAK} {B : List V → Hp → AK → AXK → Prop}
theorem r_isi {x cv : V} {t u : Value} {b : Bool} (k : ClsV cv u) (ty : TyX K kn x t) (e : PySem.W.kitOne K t u = some b) (q : Q (.bl b) kn n) : W c (rIsi K [x, cv]) kn n Q :=
  fun H g _ f => ⟨x, cv, t, u, b, rfl, k, tyx_ext g.ex ty, e, f _ kn n H q g⟩
theorem w_call {dvs : List V} {t : TA} (hm : MonoX B) (hE : ErrOk c EA E) (h : W c (t σ) kn n fun vs kn1 n1 => B (vs ++ dvs) kn1 (fun v k => Q v k n1) (fun cls d k => EA cls d k n1)) : W c (tCall (liftX B) dvs E t σ) kn n Q :=
  w_callX hm hE h
def rIsN : R2 := fun x y H Q => y = V.non ∧ Q (V.bl (decide (x = V.non))) H
theorem c_isN {X : Cx} : OpR X (compareOp .Is) rIsN := op_isN
theorem r_isN {x : V} (q : Q (.bl (decide (x = V.non))) kn n) : W c (rIsN x .non) kn n Q := fun H g _ k => ⟨rfl, k _ kn n H q g⟩
theorem r_isNt (q : Q (V.bl true) kn n) : W c (rIsN .non .non) kn n Q := fun H g _ k => ⟨rfl, k _ kn n H q g⟩
theorem r_isNr {a : Addr} (q : Q (V.bl false) kn n) : W c (rIsN (.ref a) .non) kn n Q := fun H g _ k => ⟨rfl, k _ kn n H q g⟩
theorem r_neV {v : V} (h : scal v v = true) (q : Q (V.bl false) kn n) : W c (rNe v v) kn n Q := r_ne h (by rw [decide_eq_true rfl]; exact q)
theorem r_eqV {v : V} (h : scal v v = true) (q : Q (V.bl true) kn n) : W c (rEq v v) kn n Q := r_eq h (by rw [decide_eq_true rfl]; exact q)
theorem r_neSelf {x : Str} (q : Q (V.bl false) kn n) : W c (rNe (.str x) (.str x)) kn n Q := r_ne rfl (by rw [decide_eq_true rfl]; exact q)
theorem r_eqSelf {x : Str} (q : Q (V.bl true) kn n) : W c (rEq (.str x) (.str x)) kn n Q := r_eq rfl (by rw [decide_eq_true rfl]; exact q)
theorem w_make {C : Addr} {t : TA} (hm : MonoX B) (hE : ErrOk c EA E) (h : W c (t σ) kn n fun vs kn1 n1 => ∀ x dx, kn1 x = none → kn1 dx = none → dx ≠ x →
    B (.ref x :: vs) (upd (upd kn1 dx (.own x)) x (.ins C dx [])) (fun v kn2 => v = .non ∧ Q (.ref x) kn2 n1) (fun cls d k => EA cls d k n1)) : W c (tMake C (liftX B) [] E t σ) kn n Q :=
  fun H g Q' q => h H g _ fun vs kn1 n1 H1 h1 g1 => fun x dx hx hdx hne => by
    have hx2 : upd H1 dx (.own x) x = none := by rw [upd_ne (Ne.symm hne)]; exact hx
    have z := sp_call (c := c) (n := n1) (Q := fun v kn2 n2 => v = .non ∧ Q (.ref x) kn2 n2) hm hE (h1 x dx (g1.free hx) (g1.free hdx) hne) _ ((g1.new hdx).new hx2) (fun v H2 => v = .non ∧ Q' (.ref x) H2)
      (fun v kn2 n2 H2 hq g2 => ⟨hq.1, q _ _ _ _ hq.2 g2⟩)
    have e : vs ++ [] = vs := List.append_nil vs
    rw [e]
    exact z
theorem w_meth {C : Addr} {m : Str} {ta : TE} {t : TA} (hm : MonoX B) (hE : ErrOk c EA E) (h : W c (ta σ) kn n fun x kn1 n1 => ∃ a dx fs, x = .ref a ∧ kn1 a = some (.ins C dx fs) ∧ fs.lookup m = none ∧
    W c (t σ) kn1 n1 fun vs kn2 n2 => B (.ref a :: vs) kn2 (fun v k => Q v k n2) (fun cls d k => EA cls d k n2)) : W c (tMeth C m (liftX B) [] E ta t σ) kn n Q :=
  fun H g Q' q => h H g _ fun x kn1 n1 H1 h1 g1 => by
    obtain ⟨a, dx, fs, rfl, ha, hl, h2⟩ := h1
    refine ⟨a, dx, fs, rfl, g1.ex _ _ ha, hl, h2 H1 g1 _ fun vs kn2 n2 H2 h3 g2 => ?_⟩
    have e : vs ++ [] = vs := List.append_nil vs
    rw [e]
    exact sp_call hm hE h3 H2 g2 Q' q
theorem r_own {op : Operator} {C a dx : Addr} {fs : List (Str × V)} {y : V} {t : Value} (hm : MonoX B) (hE : ErrOk c EA E) (ha : kn a = some (.ins C dx fs)) (ty : TyX K kn y t) (ot : OpT K op C t)
    (h : B [.ref a, y] kn (fun v k => Q v k n) (fun cls d k => EA cls d k n)) : W c (rOwn K op C (liftX B) E (.ref a) y) kn n Q :=
  fun H g Q' q => ⟨a, dx, fs, t, rfl, g.ex _ _ ha, tyx_ext g.ex ty, ot, sp_call hm hE h H g Q' q⟩
theorem r_eqO {C a dx : Addr} {fs : List (Str × V)} {y : V} {t : Value} {neg : Bool} (hm : MonoX B) (ha : kn a = some (.ins C dx fs)) (ty : TyX K kn y t) (nf : PySem.W.notFirst K C t = true)
    (h : B [.ref a, y] kn (fun v k => ∃ b, v = .bl b ∧ Q (.bl (if neg then !b else b)) k n) (fun _ _ _ => False)) : W c (rEqO K C (liftX B) neg (.ref a) y) kn n Q :=
  fun H g Q' q => ⟨a, dx, fs, t, rfl, g.ex _ _ ha, tyx_ext g.ex ty, nf, sp_call (EA := fun _ _ _ _ => False) (Q := fun v k n => ∃ b, v = .bl b ∧ Q (.bl (if neg then !b else b)) k n) hm err_no h H g _ fun v kn1 n1 H1 ⟨b, e, hq⟩ g1 => ⟨b, e, q _ _ _ _ hq g1⟩⟩
theorem r_lenO {C a dx : Addr} {fs : List (Str × V)} (hm : MonoX B) (ha : kn a = some (.ins C dx fs)) (h : B [.ref a] kn (fun v k => ∃ i : Int, v = .int i ∧ (0 ≤ i ∧ i < 2 ^ 63) ∧ Q (.int i) k n) (fun _ _ _ => False)) : W c (rLenO C (liftX B) [.ref a]) kn n Q :=
  fun H g Q' q => ⟨a, dx, fs, rfl, g.ex _ _ ha, sp_call (EA := fun _ _ _ _ => False) (Q := fun v k n => ∃ i : Int, v = .int i ∧ (0 ≤ i ∧ i < 2 ^ 63) ∧ Q (.int i) k n) hm err_no h H g _ fun v kn1 n1 H1 ⟨b, e, e2, hq⟩ g1 => ⟨b, e, e2, q _ _ _ _ hq g1⟩⟩
theorem r_strO {C a dx : Addr} {fs : List (Str × V)} (hm : MonoX B) (ha : kn a = some (.ins C dx fs)) (h : B [.ref a] kn (fun v k => ∃ x : Str, v = .str x ∧ Q (.str x) k n) (fun _ _ _ => False)) : W c (rStrO C (liftX B) [.ref a]) kn n Q :=
  fun H g Q' q => ⟨a, dx, fs, rfl, g.ex _ _ ha, sp_call (EA := fun _ _ _ _ => False) (Q := fun v k n => ∃ x : Str, v = .str x ∧ Q (.str x) k n) hm err_no h H g _ fun v kn1 n1 H1 ⟨b, e, hq⟩ g1 => ⟨b, e, q _ _ _ _ hq g1⟩⟩
theorem w_cval {ta : TE} {f : Str} (h : W c (ta σ) kn n fun x kn1 n1 => ∃ C mc v u, x = .ref C ∧ CRead K C mc ∧ CVal K C mc f v u ∧ Q v kn1 n1) : W c (tCVal K ta f σ) kn n Q :=
  fun H g Q' q => h H g _ fun x kn1 n1 H1 ⟨C, mc, v, u, e, r, cv, hq⟩ g1 => ⟨C, mc, v, u, e, r, cv, q _ _ _ _ hq g1⟩
theorem w_tupRg {ta tb : TE} (h : W c (ta σ) kn n fun x kn1 n1 => W c (tb σ) kn1 n1 fun y kn2 n2 => ∃ i j, x = .int i ∧ y = .int j ∧ RgOk i j ∧ ∀ q, kn2 q = none → Q (.ref q) (upd kn2 q (.tup (rgV i j))) n2) : W c (tTupRg (tRg2 ta tb) σ) kn n Q :=
  fun H g Q' q => h H g _ fun x kn1 n1 H1 h1 g1 => h1 H1 g1 _ fun y kn2 n2 H2 ⟨i, j, e1, e2, ok, h2⟩ g2 => ⟨i, j, e1, e2, ok, fun p hp => q _ _ _ _ (h2 p (g2.free hp)) (g2.new hp)⟩
theorem w_fmtI {te : TE} (h : W c (te σ) kn n fun x kn1 n1 => ∃ i : Int, x = .int i ∧ i.natAbs.log2 < 1920 ∧ Q (.str (toString i)) kn1 n1) : W c (tFmt te σ) kn n Q :=
  fun H g Q' q => h H g _ fun x kn1 n1 H1 ⟨i, e, hi, hq⟩ g1 => .inr ⟨i, e, hi, q _ _ _ _ hq g1⟩
theorem w_fmtS {te : TE} (h : W c (te σ) kn n fun x kn1 n1 => ∃ y : Str, x = .str y ∧ y.length ≤ sizeLine ∧ Q (.str y) kn1 n1) : W c (tFmt te σ) kn n Q :=
  fun H g Q' q => h H g _ fun x kn1 n1 H1 ⟨i, e, hi, hq⟩ g1 => .inl ⟨i, e, hi, q _ _ _ _ hq g1⟩
theorem w_js0 {acc : Str} {QS : Str → Hp → Nat → Prop} (q : QS acc kn n) : W c (tJs [] acc σ) kn n QS := fun H g _ k => k _ kn n H q g
theorem w_js {t : TE} {ts : List TE} {acc : Str} {QS : Str → Hp → Nat → Prop} (h : W c (t σ) kn n fun x kn1 n1 => ∃ y : Str, x = .str y ∧ (acc ++ y).length ≤ sizeLine ∧ W c (tJs ts (acc ++ y) σ) kn1 n1 QS) : W c (tJs (t :: ts) acc σ) kn n QS :=
  fun H g Q' q => h H g _ fun x kn1 n1 H1 ⟨y, e, hl, h2⟩ g1 => ⟨y, e, hl, h2 H1 g1 Q' q⟩
theorem w_joined {ts : List TE} (h : W c (tJs ts Str.empty σ) kn n fun out kn1 n1 => Q (.str out) kn1 n1) : W c (fun H Q' => tJs ts Str.empty σ H fun out H1 => Q' (.str out) H1) kn n Q :=
  fun H g Q' q => h H g _ fun out kn1 n1 H1 h1 g1 => q _ _ _ _ h1 g1
theorem r_repr {a : Addr} {d : PyData} (hd : Dp K kn (.ref a) d) (h1 : d.showable = true) (h2 : d.hasDict = false) (h3 : d.depth ≤ 64) (h4 : d.shown.length ≤ sizeLine) (q : Q (.str d.shown) kn n) : W c (rRepr K [.ref a]) kn n Q :=
  fun H g _ k => ⟨a, d, rfl, Dp.ext g.ex d _ hd, h1, h2, h3, h4, k _ kn n H q g⟩
theorem r_isK {a D dd : Addr} {fs : List (Str × V)} {cv : V} {u : Value} {b : Bool} (k : ClsV cv u) (ea : kn a = some (exh a (.ref D) (some dd))) (ed : kn dd = some (.xd fs)) (ex : ExcC K D) (e : PySem.W.kitOne K (.ref D) u = some b) (q : Q (.bl b) kn n) : W c (rIsK K [.ref a, cv]) kn n Q :=
  fun H g _ f => ⟨a, D, dd, fs, cv, u, b, rfl, k, g.ex _ _ ea, g.ex _ _ ed, ex, e, f _ kn n H q g⟩
theorem w_xk {te : TE} {f : Str} (h : W c (te σ) kn n fun x kn1 n1 => ∃ (a C dd : Addr) (fs : List (Str × V)) (v : V), x = .ref a ∧ kn1 a = some (exh a (.ref C) (some dd)) ∧ kn1 dd = some (.xd fs) ∧ XfC K C ∧ PySem.W.findIn K (.ref C) f = some none ∧ fs.lookup f = some v ∧ Q v kn1 n1) : W c (tXk K te f σ) kn n Q :=
  fun H g Q' q => h H g _ fun x kn1 n1 H1 ⟨a, C, dd, fs, v, e, ea, ed, xf, hn, hl, hq⟩ g1 => ⟨a, C, dd, fs, v, e, g1.ex _ _ ea, g1.ex _ _ ed, xf, hn, hl, q _ _ _ _ hq g1⟩
theorem w_dnew (h : ∀ q, kn q = none → Q (.ref q) (upd kn q (.dK [])) n) : W c (tDNewK σ) kn n Q := fun H g Q' q => fun p hp => q _ _ _ _ (h p (g.free hp)) (g.new hp)
theorem w_chain {r r' : R2} {ta tb tc : TE} (h : W c (ta σ) kn n fun x kn1 n1 => W c (tb σ) kn1 n1 fun y kn2 n2 => W c (r x y) kn2 n2 fun z kn3 n3 => ∃ k, z = .bl k ∧ (k = true → W c (tc σ) kn3 n3 fun w kn4 n4 => W c (r' y w) kn4 n4 Q) ∧ (k = false → Q (.bl false) kn3 n3)) : W c (tChain r r' ta tb tc σ) kn n Q :=
  fun H g Q' q => h H g _ fun x kn1 n1 H1 h1 g1 => h1 H1 g1 _ fun y kn2 n2 H2 h2 g2 => h2 H2 g2 _ fun z kn3 n3 H3 h3 g3 => by
    obtain ⟨k, e, a, b⟩ := h3
    refine ⟨k, e, ?_⟩
    cases k with
    | true => exact iteT (a rfl H3 g3 _ fun w kn4 n4 H4 h4 g4 => h4 H4 g4 Q' q)
    | false => exact iteF (q _ _ _ _ (b rfl) g3)
variable {D : AE}
theorem s_fld {ta tv : TE} {f : Str} (h : W c (tv σ) kn n fun y kn1 n1 => W c (ta σ) kn1 n1 fun x kn2 n2 => ∃ a C dx fs, x = .ref a ∧ kn2 a = some (.ins C dx fs) ∧ Cls K C ∧ NoAttr K C f ∧ fs.length < 1000 ∧ D.nx σ (upd kn2 a (.ins C dx (putF f y fs))) n2) : WS c (sFld K ta tv f) D σ kn n :=
  fun H g D' fit => h H g _ fun y kn1 n1 H1 h1 g1 => h1 H1 g1 _ fun x kn2 n2 H2 ⟨a, C, dx, fs, e, ha, cl, na, hl, hq⟩ g2 => ⟨a, C, dx, fs, e, g2.ex _ _ ha, cl, na, hl, fit.nx _ _ _ _ hq (g2.put ha rfl)⟩
theorem s_aug {i : Nat} {te : TE} {ti : TIp} {x : V} (hv : σ[i]? = some (some x)) (h : W c (te σ) kn n fun y kn1 n1 => W c (ti x y) kn1 n1 fun z kn2 n2 => D.nx (σ.set i (some z)) kn2 n2) : WS c (tAug i te ti) D σ kn n :=
  fun H g D' fit => ⟨x, hv, h H g _ fun y kn1 n1 H1 h1 g1 => h1 H1 g1 _ fun z kn2 n2 H2 h2 g2 => fit.nx _ _ _ _ h2 g2⟩
theorem room_u128 {k : Nat} {A : Around} (r : Room k A) : A.units + 128 < cLine := by have := r.un; omega
/-- an error class whose __init__ sets one field -/
def spX1 (K : PySem.W.Frag) (f : Str) : Sp := fun vs H Q _ => ∃ (a C : Addr) (y : V), vs = [.ref a, y] ∧ OexC K C ∧ PySem.W.findIn K (.ref C) f = some none ∧ H a = some (exo a C none) ∧
  ∀ dx, H dx = none → dx ≠ a → Q .non (upd (upd H dx (exd dx [(f, y)])) a (exo a C (some dx)))
theorem x1_end {H : Hp} {a d : Addr} {o1 o2 o3 o4 : HO} (ha : H a = none) (hd : d ≠ a) : upd (del (upd (upd (upd H a o1) d o2) a o3) a) d o4 = upd H d o4 := by
  funext x
  by_cases h1 : x = d
  · rw [h1, upd_same, upd_same]
  · rw [upd_ne h1, upd_ne h1]
    by_cases h2 : x = a
    · rw [h2, del_same, ha]
    · rw [del_ne h2, upd_ne h2, upd_ne h1, upd_ne h2]
theorem s_raise1 {C : Addr} {f : Str} {ta : TA} (oc : OexC K C) (hf : PySem.W.findIn K (.ref C) f = some none) (hE : ErrOk c EA E)
    (h : W c (ta σ) kn n fun vs kn1 n1 => ∃ y, vs = [y] ∧ ∀ d, kn1 d = none → EA (.ref C) (some d) (upd kn1 d (.xd [(f, y)])) n1) :
    WS c (fun _ σ H => tMkO C (spX1 K f) [] ta σ H fun cls d H' => E cls d H') D σ kn n :=
  fun H g D' fit => h H g _ fun vs kn1 n1 H1 ⟨y, e, h1⟩ g1 => by
    subst e
    refine ⟨Nat.le_add_left 1 999, fun a ha => ⟨a, C, y, rfl, oc, hf, upd_same, fun d hd hda => ⟨rfl, d, [(f, y)], upd_same, ?_, ?_, ?_⟩⟩⟩
    · rw [upd_ne hda, upd_same]
    · rw [upd_ne hda] at hd
      exact hd
    · rw [upd_ne hda] at hd
      rw [x1_end ha hda]
      exact hE _ _ _ _ _ (h1 d (g1.free hd)) (g1.new hd)
end
end AW

/-! C(.., k = v) at the abstract layer. -/
namespace L2
open PySem PySem.Spec PyProof.Rows
/-- o.m(k = v, ..), no positional argument -/
def tMethKW (C : Addr) (m : Str) (b : Nat) (sp : Sp) (gV : List V → List V → List V) (E : XK) (ta : TE) (tk : TA) : TE := fun σ H Q => ta σ H fun x H1 => ∃ a dx fs, x = .ref a ∧ H1 a = some (.ins C dx fs) ∧ fs.lookup m = none ∧ tk σ H1 fun zs H2 => zs.length = b ∧ sp (gV [x] zs) H2 Q E
section
variable {X : Cx} {CX : CXT} {k : Nat} {f C : Addr} {fd : FuncData} {ps ks : List Str} {sp : Sp} {E : XK} {m : Str} {apos pos : Pos} {o : Expr} {kws : List Keyword} {ta : TE} {tk : TA} {g : List Value → List Value → List Value} {gV : List V → List V → List V}
theorem pe_methKW {pl : Sem Bool} (he : PE X o ta) (c : Cls X.K C) (hm : Meth X.K C m f) (F : FnOk X.prog X.w X.K X.mg X.base CX k f fd ps sp) (hr : Room k X.A) (hb : KBn X.K fd ps 1 ks g gV) (hx : Passes CX X E) (hkw : PK X kws tk)
    (hall : (backToKw pos (keywordEach kws X.env)).all (·.1.isSome) = true := by rfl) (hks : (backToKw pos (keywordEach kws X.env)).filterMap (·.1) = ks := by rfl)
    (hpl : ((backTo pos (starEach [] X.env)).any (·.1) || (backToKw pos (keywordEach kws X.env)).any (·.1.isNone)) = false := by rfl)
    (ht : eval (.Call (.Attribute o m apos) [] kws pos) X.env = (do
      let ov ← eval o X.env
      standAt apos.atName
      let (fn, first) ← holding [ov] (getMethod ov m pl)
      callWith pos fn first (backTo pos (starEach [] X.env)) (backToKw pos (keywordEach kws X.env))) := by rfl) :
    PE X (.Call (.Attribute o m apos) [] kws pos) (tMethKW C m ks.length sp gV E ta tk) := by
  refine ⟨fun pins s σ H Q I h => ?_⟩
  refine PySem.W.methodCall_KW (pl := pl) (thn (he.run pins s σ H _ I h) fun u s1 ⟨x, H1, I1, rx, a, dx, fs, ex, ea, l, q⟩ => ?_) ht
  subst ex
  cases (show u = Value.ref a from rx)
  refine getmeth_ok I1 ea c hm l ?_
  refine PySem.W.callWith_KW0 (first := [.ref a]) (h₀ := X.base) I1.ok.mod.kin hm.kp hall ?_ hpl
  refine thn (hkw.run pos pins s1 σ H1 _ I1 q) fun ws s2 ⟨zs, H2, I2, rz, lz, q2⟩ => ⟨I2.kIn, ?_⟩
  rw [hks]
  have r1 : Vals [V.ref a] [Value.ref a] := .cons rfl .nil
  have lw : ws.length = ks.length := rz.length.symm.trans lz
  refine wpAny_call (codeAny_mono (F.run X.A X.stack s2 H2 ⟨[.ref a], ks.zip ws⟩ (g [.ref a] ws) (gV [.ref a] zs) Q E hr I2.env0 (hb.to s2 [.ref a] ws I2.kIn rfl lw) (hb.rel r1 rz) q2) fun r s' hq => ?_)
  cases r with
  | error e => exact hx pins σ H2 s2 e s' I2 hq
  | ok fl =>
    cases fl with
    | ret u => exact I2.after hq
    | next => exact False.elim hq
    | brk => exact False.elim hq
    | cont => exact False.elim hq
end
end L2
namespace AW
open PySem PySem.Spec PyProof.Rows L2
section
variable {c : Cw} {kn : Hp} {n : Nat} {σ : L2.St} {Q : V → Hp → Nat → Prop} {E : XK} {EA : EAK} {B : List V → Hp → AK → AXK → Prop} {C : Addr} {a b : Nat} {gV : List V → List V → List V} {t tk : TA}
theorem w_makeN (hm : MonoX B) (hE : ErrOk c EA E) (h : W c (t σ) kn n fun vs kn1 n1 => W c (tk σ) kn1 n1 fun zs kn2 n2 => vs.length = a ∧ zs.length = b ∧ ∀ x dx, kn2 x = none → kn2 dx = none → dx ≠ x →
    B (gV (.ref x :: vs) zs) (upd (upd kn2 dx (.own x)) x (.ins C dx [])) (fun v k => v = .non ∧ Q (.ref x) k n2) (fun cls d k => EA cls d k n2)) : W c (tMakeN C a b (liftX B) gV E t tk σ) kn n Q :=
  fun H g Q' q => h H g _ fun vs kn1 n1 H1 h1 g1 => h1 H1 g1 _ fun zs kn2 n2 H2 ⟨l1, l2, h2⟩ g2 => ⟨l1, l2, fun x dx hx hdx hne => by
    have hx2 : upd H2 dx (.own x) x = none := by rw [upd_ne (Ne.symm hne)]; exact hx
    exact sp_call (c := c) (n := n2) (Q := fun v k m => v = .non ∧ Q (.ref x) k m) hm hE (h2 x dx (g2.free hx) (g2.free hdx) hne) _ ((g2.new hdx).new hx2) (fun v H3 => v = .non ∧ Q' (.ref x) H3) fun v k m H3 hq g3 => ⟨hq.1, q _ _ _ _ hq.2 g3⟩⟩
theorem w_makeK (hm : MonoX B) (hE : ErrOk c EA E) (h : W c (t σ) kn n fun vs kn1 n1 => W c (tk σ) kn1 n1 fun zs kn2 n2 => vs.length = a ∧ zs.length = b ∧ ∀ x dx, kn2 x = none → kn2 dx = none → dx ≠ x →
    B (gV (.ref x :: vs) zs) (upd (upd kn2 dx (.own x)) x (.ins C dx [])) (fun v k => v = .non ∧ Q (.ref x) k n2) (fun cls d k => EA cls d k n2)) : W c (tMakeK C a b (liftX B) gV E t tk σ) kn n Q :=
  fun H g Q' q => h H g _ fun vs kn1 n1 H1 h1 g1 => h1 H1 g1 _ fun zs kn2 n2 H2 ⟨l1, l2, h2⟩ g2 => ⟨l1, l2, fun x dx hx hdx hne => by
    have hx2 : upd H2 dx (.own x) x = none := by rw [upd_ne (Ne.symm hne)]; exact hx
    exact sp_call (c := c) (n := n2) (Q := fun v k m => v = .non ∧ Q (.ref x) k m) hm hE (h2 x dx (g2.free hx) (g2.free hdx) hne) _ ((g2.new hdx).new hx2) (fun v H3 => v = .non ∧ Q' (.ref x) H3) fun v k m H3 hq g3 => ⟨hq.1, q _ _ _ _ hq.2 g3⟩⟩
theorem w_methKW {m : Str} {ta : TE} (hm : MonoX B) (hE : ErrOk c EA E) (h : W c (ta σ) kn n fun x kn1 n1 => ∃ a dx fs, x = .ref a ∧ kn1 a = some (.ins C dx fs) ∧ fs.lookup m = none ∧
    W c (tk σ) kn1 n1 fun zs kn2 n2 => zs.length = b ∧ B (gV [.ref a] zs) kn2 (fun v k => Q v k n2) (fun cls d k => EA cls d k n2)) : W c (tMethKW C m b (liftX B) gV E ta tk σ) kn n Q :=
  fun H g Q' q => h H g _ fun x kn1 n1 H1 h1 g1 => by
    obtain ⟨a, dx, fs, rfl, ha, hl, h2⟩ := h1
    exact ⟨a, dx, fs, rfl, g1.ex _ _ ha, hl, h2 H1 g1 _ fun zs kn2 n2 H2 ⟨lz, h3⟩ g2 => ⟨lz, sp_call hm hE h3 H2 g2 Q' q⟩⟩
end
end AW

/-! x in o, x not in o: o of an own class with __contains__; truth of an own class by __bool__ or __len__ is not here. -/
namespace L2
open PySem PySem.Spec PyProof.Rows
section
variable {X : Cx} {CX : CXT} {k : Nat} {f C : Addr} {fd : FuncData} {ps : List Str} {sp : Sp}
def rInO (C : Addr) (sp : Sp) (neg : Bool) : R2 := fun x y H Q => ∃ a dx fs, y = .ref a ∧ H a = some (.ins C dx fs) ∧ sp [.ref a, x] H (fun v H' => ∃ b, v = .bl b ∧ Q (.bl (if neg then !b else b)) H') (fun _ _ _ => False)
theorem op_inO (M : SpM X.K C f "__contains__") (F : FnOk X.prog X.w X.K X.mg X.base CX k f fd ps sp) (hr : Room k X.A) (hb : Binds X.K fd ps []) (hx : Passes CX X (fun _ _ _ => False)) : OpR X (compareOp .In) (rInO C sp false) := by
  intro pins s σ H x y v u Q I rx ry h
  obtain ⟨a, dx, fs, rfl, ha, hq⟩ := h
  cases (show u = Value.ref a from ry)
  obtain ⟨_, J, _⟩ := ins_get I.hok ha
  obtain ⟨_, J, _⟩ := J.look
  obtain ⟨_, hF⟩ := I.fr
  refine PySem.W.in_K hF I.ok.mod.kin J M.hs M.hf (wpAny_mono (callA (vs := [.ref a, x]) F hr rfl hb hx I (.cons rfl (.cons rx .nil)) hq) (fun z s' hz => ?_) fun _ _ z => z)
  obtain ⟨v', H', I', rv, b, e, q⟩ := hz
  subst e
  cases (show z = Value.bool b from rv)
  exact wpAny_truthy_bool ⟨.bl b, H', I', rfl, q⟩
theorem op_notInO (M : SpM X.K C f "__contains__") (F : FnOk X.prog X.w X.K X.mg X.base CX k f fd ps sp) (hr : Room k X.A) (hb : Binds X.K fd ps []) (hx : Passes CX X (fun _ _ _ => False)) : OpR X (compareOp .NotIn) (rInO C sp true) := by
  intro pins s σ H x y v u Q I rx ry h
  obtain ⟨a, dx, fs, rfl, ha, hq⟩ := h
  cases (show u = Value.ref a from ry)
  obtain ⟨_, J, _⟩ := ins_get I.hok ha
  obtain ⟨_, J, _⟩ := J.look
  obtain ⟨_, hF⟩ := I.fr
  refine PySem.W.notIn_K hF I.ok.mod.kin J M.hs M.hf (wpAny_mono (callA (vs := [.ref a, x]) F hr rfl hb hx I (.cons rfl (.cons rx .nil)) hq) (fun z s' hz => ?_) fun _ _ z => z)
  obtain ⟨v', H', I', rv, b, e, q⟩ := hz
  subst e
  cases (show z = Value.bool b from rv)
  exact wpAny_truthy_bool ⟨.bl (!b), H', I', rfl, q⟩
end
end L2
namespace AW
open PySem PySem.Spec PyProof.Rows L2
section
variable {c : Cw} {kn : Hp} {n : Nat} {Q : V → Hp → Nat → Prop} {B : List V → Hp → AK → AXK → Prop}
theorem r_inO {C a dx : Addr} {fs : List (Str × V)} {x : V} {neg : Bool} (hm : MonoX B) (ha : kn a = some (.ins C dx fs)) (h : B [.ref a, x] kn (fun v k => ∃ b, v = .bl b ∧ Q (.bl (if neg then !b else b)) k n) (fun _ _ _ => False)) : W c (rInO C (liftX B) neg x (.ref a)) kn n Q :=
  fun H g Q' q => ⟨a, dx, fs, rfl, g.ex _ _ ha, sp_call (EA := fun _ _ _ _ => False) (Q := fun v k n => ∃ b, v = .bl b ∧ Q (.bl (if neg then !b else b)) k n) hm err_no h H g _ fun v kn1 n1 H1 ⟨b, e, hq⟩ g1 => ⟨b, e, q _ _ _ _ hq g1⟩⟩
end
end AW

/-! The pen: what it draws is not told, but its bounds. -/
namespace AW
open PySem PySem.Spec PyProof.Rows L2 LamX
/-- the pen: a list of the cells' list, the spot, the number that is left over -/
structure PenAt (H : Hp) (p a : Addr) (ns : List Int) (n : Nat) : Prop where
  pen : ∃ i g : Int, H p = some (.lst [.ref a, .int i, .int g]) ∧ 0 ≤ i ∧ i ≤ n ∧ 0 ≤ g
  cells : H a = some (.lst (ns.map V.int))
  pa : p ≠ a
theorem PenAt.mono {H : Hp} {p a : Addr} {ns : List Int} {n m : Nat} (h : PenAt H p a ns n) (e : n ≤ m) : PenAt H p a ns m := by
  obtain ⟨⟨i, g, h1, h2, h3, h4⟩, h5, h6⟩ := h
  exact ⟨⟨i, g, h1, h2, by omega, h4⟩, h5, h6⟩
/-- _law_draw -/
def spDraw : Sp := fun vs H Q _ => ∃ (p a : Addr) (ns : List Int) (n : Nat) (many : Int), vs = [.ref p, .int many] ∧ PenAt H p a ns n ∧ n < 1000000 ∧ 0 < many ∧ many < 1180591620717411303424 ∧
  ∀ (k : Int) (H' : Hp), 0 ≤ k → k < many → PenAt H' p a ns (n + 1) → (∀ x o, x ≠ p → H x = some o → H' x = some o) → Q (.int k) H'
theorem nil_eqv (ns : List Int) : PyData.eqv (.list (ns.map PyData.int)) (.list []) = ns.isEmpty := by
  cases ns <;> simp [PyData.eqv, PyData.eqvAll]
theorem dp_ints {K : PySem.W.Frag} {H : Hp} : ∀ ns : List Int, DpAll K H (ns.map V.int) (ns.map PyData.int)
  | [] => .nil
  | n :: r => .cons (.int n) (dp_ints r)
theorem mul_bd {a b A B : Int} (h1 : 0 ≤ a) (h2 : a ≤ A) (h3 : 0 ≤ b) (h4 : b ≤ B) : 0 ≤ a * b ∧ a * b ≤ A * B :=
  ⟨Int.mul_nonneg h1 h3, Int.mul_le_mul h2 h4 h3 (Int.le_trans h1 h2)⟩
theorem at_mod (ns : List Int) (i : Int) (h : 0 < ns.length) : ∃ z, atI (ns.map V.int) (i % ((ns.map V.int).length : Int)) = some (.int z) := by
  rw [List.length_map]
  have h1 : 0 ≤ i % (ns.length : Int) := Int.emod_nonneg _ (by omega)
  have h2 : i % (ns.length : Int) < ns.length := Int.emod_lt_of_pos _ (by omega)
  obtain ⟨j, hj⟩ : ∃ j : Nat, i % (ns.length : Int) = j := ⟨(i % (ns.length : Int)).toNat, by omega⟩
  have hj2 : j < ns.length := by omega
  rw [hj]
  refine ⟨ns[j], atI_nat ?_⟩
  rw [List.getElem?_map, List.getElem?_eq_getElem hj2]
  rfl
theorem lay_ints : ∀ ns : List Int, PyData.canLayAll0 (ns.map PyData.int) = true
  | [] => by simp [PyData.canLayAll0]
  | n :: r => by simp only [List.map_cons, PyData.canLayAll0, PyData.canLay0, Bool.true_and]; exact lay_ints r
theorem deep_ints : ∀ ns : List Int, PyData.depthAll (ns.map PyData.int) = 0
  | [] => by simp [PyData.depthAll]
  | n :: r => by simp only [List.map_cons, PyData.depthAll, PyData.depth]; rw [deep_ints r]; rfl
theorem shaped_ints (ns : List Int) : SeqAt.shaped (.list (ns.map PyData.int)) = true := by
  unfold SeqAt.shaped
  rw [show PyData.canLay0 (.list (ns.map PyData.int)) = true by simp only [PyData.canLay0]; exact lay_ints ns, show PyData.depth (.list (ns.map PyData.int)) = 1 by simp only [PyData.depth]; rw [deep_ints ns]]
  rfl
theorem weigh_int {i : Int} (h : i.natAbs < 10 ^ 12) : PyData.weight (.int i) ≤ 41 := by
  simp only [PyData.weight]
  split
  · omega
  · rename_i z
    have z0 : i.natAbs ≠ 0 := fun e => z (by rw [beq_iff_eq]; omega)
    have a : i.natAbs < 2 ^ 40 := by omega
    have := (Nat.log2_lt z0).mpr a
    omega
theorem weigh_ints : ∀ ns : List Int, (∀ n ∈ ns, n.natAbs < 10 ^ 12) → PyData.weightAll (ns.map PyData.int) ≤ 42 * ns.length
  | [], _ => by simp [PyData.weightAll]
  | n :: r, h => by
    have h1 := weigh_int (h n List.mem_cons_self)
    have h2 := weigh_ints r fun m hm => h m (List.mem_cons_of_mem _ hm)
    simp only [List.map_cons, PyData.weightAll, List.length_cons]
    omega
theorem lay0_ints {ns : List Int} (h : ∀ n ∈ ns, n.natAbs < 10 ^ 12) (l : ns.length ≤ 1000) : PyData.layable0 (.list (ns.map PyData.int)) = true := by
  have h1 := weigh_ints ns h
  have h2 : PyData.weight (.list (ns.map PyData.int)) ≤ 2 ^ 20 := by simp only [PyData.weight]; omega
  unfold PyData.layable0
  rw [show PyData.canLay0 (.list (ns.map PyData.int)) = true by simp only [PyData.canLay0]; exact lay_ints ns, show PyData.depth (.list (ns.map PyData.int)) = 1 by simp only [PyData.depth]; rw [deep_ints ns], decide_eq_true h2]
  rfl
theorem show_ints : ∀ ns : List Int, (∀ n ∈ ns, n.natAbs < 10 ^ 12) → PyData.showableAll (ns.map PyData.int) = true
  | [], _ => by simp [PyData.showableAll]
  | n :: r, h => by
    have h0 : n.natAbs.log2 < 1920 := by
      have := h n List.mem_cons_self
      by_cases z : n.natAbs = 0
      · rw [z]; decide
      · exact Nat.lt_trans ((Nat.log2_lt z).mpr (show n.natAbs < 2 ^ 40 by omega)) (by decide)
    simp only [List.map_cons, PyData.showableAll, PyData.showable, decide_eq_true h0, Bool.true_and]
    exact show_ints r fun m hm => h m (List.mem_cons_of_mem _ hm)
theorem nodict_ints : ∀ ns : List Int, PyData.hasDictAll (ns.map PyData.int) = false
  | [] => by simp [PyData.hasDictAll]
  | n :: r => by simp only [List.map_cons, PyData.hasDictAll, PyData.hasDict, Bool.false_or]; exact nodict_ints r
theorem r_reprInts {K : PySem.W.Frag} {c : Cw} {kn : Hp} {n : Nat} {Q : V → Hp → Nat → Prop} {a : Addr} {vs : List V} (ns : List Int) (e : vs = ns.map V.int) (h : kn a = some (.lst vs)) (hb : ∀ n ∈ ns, n.natAbs < 10 ^ 12) (hl : ns.length ≤ 1000) (q : Q (.str (PyData.shown (.list (ns.map PyData.int)))) kn n) : W c (rRepr K [.ref a]) kn n Q := by
  subst e
  refine r_repr (.lst (sql h) (dp_ints ns)) ?_ ?_ ?_ ?_ q
  · simp only [PyData.showable]; exact show_ints ns hb
  · simp only [PyData.hasDict]; exact nodict_ints ns
  · simp only [PyData.depth]; rw [deep_ints ns]; decide
  · exact PyData.shown_fits_of_layable0 (B := 13) (by decide) (by decide) (lay0_ints hb hl) (by simp only [PyData.intsShort]; exact PyData.intsShortAll_ints ns hb)
theorem r_cat {c : Cw} {kn : Hp} {n : Nat} {Q : V → Hp → Nat → Prop} {l b : Addr} {xs zs : List V} (h1 : kn l = some (.lst xs)) (h2 : kn b = some (.lst zs)) (hz : xs.length + zs.length ≤ 1000) (q : ∀ p, kn p = none → Q (.ref p) (upd kn p (.lst (xs ++ zs))) n) : W c (rCat (.ref l) (.ref b)) kn n Q :=
  fun H g _ k => ⟨l, b, xs, zs, rfl, rfl, g.ex _ _ h1, g.ex _ _ h2, Nat.le_trans hz (by rw [sizeLine_eq]; decide), fun p hp => k _ _ _ _ (q p (g.free hp)) (g.new hp)⟩
theorem w_append {K : PySem.W.Frag} {c : Cw} {kn : Hp} {n i : Nat} {σ : L2.St} {Q : V → Hp → Nat → Prop} {l : Addr} {xs0 : List V} {t : TA} (hv : σ[i]? = some (some (.ref l))) (h0 : kn l = some (.lst xs0))
    (h : W c (t σ) kn n fun vs kn1 n1 => ∃ y xs, vs = [y] ∧ kn1 l = some (.lst xs) ∧ xs.length ≤ 1000 ∧ Q .non (upd kn1 l (.lst (xs ++ [y]))) n1) : W c (tBM K "list" rAppend (tVar i) t σ) kn n Q :=
  fun H g Q' q => ⟨.ref l, hv, .inl ⟨rfl, _, sql (g.ex _ _ h0)⟩, h H g _ fun vs kn1 n1 H1 ⟨y, xs, e, e1, hl, hq⟩ g1 => ⟨l, xs, y, rfl, e, g1.ex _ _ e1, Nat.lt_of_le_of_lt hl (by rw [sizeLine_eq]; decide), q _ _ _ _ hq (g1.put e1 rfl)⟩⟩
theorem Good.grow {c : Cw} {kn H H' : Hp} {n : Nat} {q : Addr} {o : HO} (g : Good c kn n H) (e : Ext H H') (h0 : H q = none) (h1 : H' q = some o) (ht : isTbl o = false := by rfl) : Good c (upd kn q o) n H' := by
  refine ⟨fun x u hx => ?_, c.step n kn H H' g.inv g.res fun x u hx _ => e x u hx, fun x r => ?_, nt_upd g.nt ht⟩
  · by_cases z : x = q
    · rw [z, upd_same] at hx; cases hx; rw [z]; exact h1
    · rw [upd_ne z] at hx; exact e x u (g.ex x u hx)
  · rw [upd_ne (fun z => c.live n H x g.inv r (by rw [z]; exact h0))]
    exact g.res x r
/-- the pen and its cells alone are known -/
def penKn (H : Hp) (p a : Addr) : Hp := fun x => if x = p ∨ x = a then H x else none
theorem TabS.keep {H H' : Hp} {P : Addr} {q : Str} (e : ∀ b o, H b = some o → isMut o = false → H' b = some o) (h : TabS H P q) : TabS H' P q := by
  obtain ⟨ps, h1, h2, h3⟩ := h
  refine ⟨ps, e _ _ h1 rfl, h2, fun pos cv hc => ?_⟩
  obtain ⟨c, e1, e2⟩ := h3 pos cv hc
  exact ⟨c, e1, e _ _ e2 rfl⟩
theorem Tabs.keep {T : List (Addr × Str)} {H H' : Hp} (e : ∀ b o, H b = some o → isMut o = false → H' b = some o) (h : Tabs T H) : Tabs T H' := fun p hp => TabS.keep e (h p hp)
def penC (p a : Addr) (ns : List Int) (T : List (Addr × Str)) : Cw where
  inv n H := PenAt H p a ns n ∧ Tabs T H
  res x := x = p ∨ x = a ∨ ∃ t ∈ T, x = t.1
  live n H x h r := by
    obtain ⟨⟨⟨i, g, h1, _⟩, h2, _⟩, hT⟩ := h
    rcases r with rfl | rfl | ⟨t, ht, rfl⟩
    · rw [h1]; exact fun z => nomatch z
    · rw [h2]; exact fun z => nomatch z
    · obtain ⟨ps, h3, _⟩ := hT t ht
      rw [h3]; exact fun z => nomatch z
  step n kn H H' h r k := by
    obtain ⟨⟨⟨i, g, h1, h1'⟩, h2, h3⟩, hT⟩ := h
    exact ⟨⟨⟨i, g, k _ _ h1 (.inl (r _ (.inl rfl))), h1'⟩, k _ _ h2 (.inl (r _ (.inr (.inl rfl)))), h3⟩, Tabs.keep (fun b o e m => k b o e (.inr m)) hT⟩
  up n m H h l := ⟨h.1.mono l, h.2⟩
section
variable {p a : Addr} {ns : List Int} {T : List (Addr × Str)} {kn : Hp} {n : Nat} {σ : L2.St} {Q : V → Hp → Nat → Prop} {E : XK} {EA : EAK} {B : List V → Hp → AK → AXK → Prop} {t : TA}
theorem w_draw (h : W (penC p a ns T) (t σ) kn n fun vs kn1 n1 => ∃ many, vs = [.ref p, .int many] ∧ n1 < 1000000 ∧ 0 < many ∧ many < 1180591620717411303424 ∧ ∀ k : Int, 0 ≤ k → k < many → Q (.int k) kn1 (n1 + 1)) : W (penC p a ns T) (tCall spDraw [] E t σ) kn n Q :=
  fun H g Q' q => h H g _ fun vs kn1 n1 H1 h1 g1 => by
    obtain ⟨many, rfl, b1, b2, b3, h2⟩ := h1
    refine ⟨p, a, ns, n1, many, rfl, g1.inv.1, b1, b2, b3, fun k H' k0 k1 hp hk => q _ _ _ _ (h2 k k0 k1) ⟨fun x o e => hk x o (fun z => ?_) (g1.ex x o e), ⟨hp, Tabs.keep (fun b o e m => hk b o (fun z => ?_) e) g1.inv.2⟩, g1.res, g1.nt⟩⟩
    · have := g1.res x (.inl z)
      rw [e] at this
      cases this
    · obtain ⟨i, g, hP, _⟩ := g1.inv.1.pen
      rw [z, hP] at e
      cases e
      cases m
/-- a promise of a def that draws m times at most -/
def liftP (T : List (Addr × Str)) (m : Nat) (B : List V → Hp → AK → AXK → Prop) : Sp := fun vs H Q E => ∃ p a ns n kn ws, vs = .ref p :: ws ∧ Good (penC p a ns T) kn n H ∧ n + m < 1000000 ∧
  B ws kn (fun v k => ∀ H', Good (penC p a ns T) k (n + m) H' → Q v H') (fun cls d k => ∀ H', Good (penC p a ns T) k (n + m) H' → E cls d H')
theorem w_callP {m : Nat} (hm : MonoX B) (hE : ErrOk (penC p a ns T) EA E) (h : W (penC p a ns T) (t σ) kn n fun vs kn1 n1 => ∃ ws, vs = .ref p :: ws ∧ n1 + m < 1000000 ∧ B ws kn1 (fun v k => Q v k (n1 + m)) (fun cls d k => EA cls d k (n1 + m))) : W (penC p a ns T) (tCall (liftP T m B) [] E t σ) kn n Q :=
  fun H g Q' q => h H g _ fun vs kn1 n1 H1 h1 g1 => by
    obtain ⟨ws, rfl, hb, h2⟩ := h1
    refine ⟨p, a, ns, n1, kn1, ws, by simp, g1, hb, hm _ _ _ _ _ _ (fun v k hq H' g' => q _ _ _ _ hq g') (fun cls d k hq H' g' => hE _ _ _ _ _ hq g') h2⟩
theorem takes_len {X : Cx} {W : WX} {m : Nat} (tk : L2.Takes X W) (h : X.N.length = m := by rfl) : L2.Takes X (fun cls d σ H => σ.length = m → W cls d σ H) :=
  fun u s' ⟨a, B, sI, pins, σ, H, cls, d, e, I, nb, up, sky, na, os, ag, w⟩ => tk u s' ⟨a, B, sI, pins, σ, H, cls, d, e, I, nb, up, sky, na, os, ag, w (I.len.trans h)⟩
/-- the abstract meaning of def heard(ask): [what was found], or (.., the error's field) -/
def EAh (B : Addr) (word : Str) (Q : V → Hp → Nat → Prop) : EAK := fun cls d kn n => cls = .ref B ∧ ∃ dd fs y, d = some dd ∧ kn dd = some (.xd fs) ∧ fs.lookup ("part" : Str) = some y ∧
  ∀ q kn2, Ext kn kn2 → kn q = none → kn2 q = some (.tup [.str word, y]) → Q (.ref q) kn2 n
def TTh (B : Addr) (word : Str) : (XK → Hp → VK → Prop) → Hp → VK → Prop := fun tl H Q => ∃ (c : Cw) (kn : Hp) (n : Nat) (QA : V → Hp → Nat → Prop), Good c kn n H ∧ (∀ v kn' n' H', QA v kn' n' → Good c kn' n' H' → Q v H') ∧
  ∀ E, ErrOk c (EAh B word QA) E → W c (fun H' Q' => tl E H' Q') kn n fun v kn1 n1 => ∀ q, kn1 q = none → QA (.ref q) (upd kn1 q (.lst [v])) n1
theorem good_lam {H H1 : Hp} (g : Good (penC p a ns T) kn n H) (e : ExtN H H1) (hT : Tabs T H1) : Good (penC p a ns T) kn n H1 := by
  obtain ⟨⟨⟨i, k, h1, h1'⟩, h2, h3⟩, _⟩ := g.inv
  refine ⟨fun x o hx => e x o (g.ex x o hx) (fun ps z => ?_), ⟨⟨⟨i, k, e _ _ h1 (fun _ z => nomatch z), h1'⟩, e _ _ h2 (fun _ z => nomatch z), h3⟩, hT⟩, g.res, g.nt⟩
  have := g.nt x o hx
  rw [z] at this
  cases this
theorem w_lam {B : Addr} {word : Str} {tt : XK → TE}
    (h : ∀ E, ErrOk (penC p a ns T) (EAh B word Q) E → W (penC p a ns T) (tt E σ) kn n fun v kn1 n1 => ∀ q, kn1 q = none → Q (.ref q) (upd kn1 q (.lst [v])) n1) : W (penC p a ns T) (tLam T (TTh B word) tt σ) kn n Q :=
  fun H g Q' q => ⟨g.inv.2, fun H1 e hT => ⟨penC p a ns T, kn, n, Q, good_lam g e hT, q, h⟩⟩
theorem fin_at {c : Cw} {kn : Hp} {n m : Nat} {P : Hp → Prop} (le : n ≤ m) (f : ∀ H', Good c kn m H' → P H') : ∀ H', Good c kn n H' → P H' := fun H' g => f H' (g.up le)
end
end AW

/-! Built-in types as right operands of own operators. -/
namespace L2
open PySem PySem.Spec PyProof.Rows
section
variable {K : PySem.W.Frag} {C : Addr}
theorem ot_int_shr (h : PySem.W.subIn K (.type "int") (.ref C) = some false) : OpT K .RShift C (.type "int") := .ty (r := true) (o := some (.builtin "int.__rrshift__")) (by first | rfl | kernel_rfl) h (by rw [typeLookup_type, builtinLookup_eq_fast]; kernel_rfl)
theorem ot_int_shl (h : PySem.W.subIn K (.type "int") (.ref C) = some false) : OpT K .LShift C (.type "int") := .ty (r := true) (o := some (.builtin "int.__rlshift__")) (by first | rfl | kernel_rfl) h (by rw [typeLookup_type, builtinLookup_eq_fast]; kernel_rfl)
theorem ot_int_div (h : PySem.W.subIn K (.type "int") (.ref C) = some false) : OpT K .FloorDiv C (.type "int") := .ty (r := true) (o := some (.builtin "int.__rfloordiv__")) (by first | rfl | kernel_rfl) h (by rw [typeLookup_type, builtinLookup_eq_fast]; kernel_rfl)
theorem ot_bool_div (h : PySem.W.subIn K (.type "bool") (.ref C) = some false) : OpT K .FloorDiv C (.type "bool") := .ty (r := true) (o := some (.builtin "int.__rfloordiv__")) (by first | rfl | kernel_rfl) h (by rw [typeLookup_type, builtinLookup_eq_fast]; kernel_rfl)
theorem ot_none_div (h : PySem.W.subIn K (.type "NoneType") (.ref C) = some false) : OpT K .FloorDiv C (.type "NoneType") := .ty (r := false) (o := none) (by first | rfl | kernel_rfl) h (by rw [typeLookup_type, builtinLookup_eq_fast]; kernel_rfl)
theorem ot_str_div (h : PySem.W.subIn K (.type "str") (.ref C) = some false) : OpT K .FloorDiv C (.type "str") := .ty (r := false) (o := none) (by first | rfl | kernel_rfl) h (by rw [typeLookup_type, builtinLookup_eq_fast]; kernel_rfl)
theorem ot_tuple_div (h : PySem.W.subIn K (.type "tuple") (.ref C) = some false) : OpT K .FloorDiv C (.type "tuple") := .ty (r := false) (o := none) (by first | rfl | kernel_rfl) h (by rw [typeLookup_type, builtinLookup_eq_fast]; kernel_rfl)
theorem ot_list_div (h : PySem.W.subIn K (.type "list") (.ref C) = some false) : OpT K .FloorDiv C (.type "list") := .ty (r := false) (o := none) (by first | rfl | kernel_rfl) h (by rw [typeLookup_type, builtinLookup_eq_fast]; kernel_rfl)
theorem ot_dict_div (h : PySem.W.subIn K (.type "dict") (.ref C) = some false) : OpT K .FloorDiv C (.type "dict") := .ty (r := false) (o := none) (by first | rfl | kernel_rfl) h (by rw [typeLookup_type, builtinLookup_eq_fast]; kernel_rfl)
end
end L2

/-! iter(t) of a tuple; list(o), o of an own class whose __iter__ gives that, with a __len__ of its own. -/
namespace L2
open PySem PySem.Spec PyProof.Rows
def TitO (t it : Addr) : HO := .ext fun h => h.IsTupleIter it t 0
theorem titO_ok {P : Program} {w : World} {H : Hp} {h : Heap} {t it : Addr} (e : h.IsTupleIter it t 0) : ObjOk P w H h it (TitO t it) := ⟨e, (let ⟨o, ho, _⟩ := e; ⟨o, ho⟩), fun h1 h2 q k => let ⟨o, ho, r⟩ := q; ⟨o, k _ ho, r⟩⟩
def rIterT (K : PySem.W.Frag) : List V → Hp → VK → Prop := fun xs H Q => ∃ (t : Addr) (zs : List V), xs = [.ref t] ∧ SqT K H t zs ∧ ∀ it, H it = none → Q (.ref it) (upd H it (TitO t it))
section
variable {X : Cx}
theorem c_iterT : CallR X (.builtin "iter") (rIterT X.K) := by
  intro pins s σ H xs us Q I r h
  obtain ⟨t, zs, rfl, hq, q⟩ := h
  obtain ⟨u, rfl, rx⟩ := vals1 r
  cases (show u = Value.ref t from rx)
  obtain ⟨its, rv, pl, hz⟩ := I.tuple hq
  refine Calls.call_function_entry (by decide +kernel) (by decide +kernel) PySem.W.kdk_entry_iter (PySem.W.kdk_args_iter _) ?_
  unfold Builtin.«iter»
  refine wpAny_bind (m := someArgs "iter" 1 2 _) (wpAny_of_eq (a := [Value.ref t]) (by first | rfl | kernel_rfl!) ?_)
  show wpAny _ _ (pyIter (.ref t) >>= _) _ _ _
  refine wpAny_bind (wpAny_pyIter_tuple pl ?_)
  refine wpAny_pure ⟨_, rfl, ?_⟩
  exact ⟨.ref s.heap.objs.size, _, I.laid (t' := s.toks) (fun b u e => Heap.get?_push_of_some _ e) (Nat.le_refl _) (titO_ok ⟨_, Heap.get?_push_size _ rfl, rfl, rfl⟩), rfl, q _ (I.hok.fresh (Nat.le_refl _))⟩
/-- the promise of such an __iter__ -/
def spIterT (C : Addr) (f : Str) : Sp := fun vs H Q _ => ∃ a dx fs t zs, vs = [.ref a] ∧ H a = some (.ins C dx fs) ∧ fs.lookup f = some (.ref t) ∧ H t = some (.tup zs) ∧ ∀ it, H it = none → Q (.ref it) (upd H it (TitO t it))
variable {kI kL n : Nat} {C fI fL S a t : Addr} {fdI fdL : FuncData} {psI psL : List Str} {spL : Sp} {f : Str} {A1 : Around} {pins : List (Addr × Obj)} {σ : St} {HA : Hp} {sA : Shared} {dx : Addr} {fs : List (Str × V)} {zs : List V} {Rs : Result → Shared → Prop}
/-- what the own __len__ answers, wherever more is known -/
def TellsLen (spL : Sp) (a : Addr) (H : Hp) (n : Nat) : Prop := ∀ H', (∀ b o, H b = some o → H' b = some o) → spL [.ref a] H' (fun v H2 => v = .int (n : Int) ∧ ∀ b o, H' b = some o → H2 b = some o) (fun _ _ _ => False)
theorem lot_hint {Q : Bool → Shared → Prop} {E : Value → Shared → Prop} {H : Hp} {s : Shared} (ML : SpM X.K C fL "__len__") (FL : FnOk X.prog X.w X.K X.mg X.base CX0 kL fL fdL psL spL) (bL : Binds X.K fdL psL []) (hr : Room (kL + 1) A1) (hfr : A1.frames = X.A.frames)
    (I : Inv X pins σ H s) (ha : H a = some (.ins C dx fs)) (hz : n ≤ 1000) (hL : TellsLen spL a H n)
    (q : ∀ k s' H', Inv X pins σ H' s' → Un (frs X.stack) [] H H' s.heap s'.heap → s'.os = s.os → (∀ b o, H b = some o → H' b = some o) → Q k s') : wpAny (model X.prog X.w) A1 (Builtin.List.listLengthHint (.ref a)) Q E s := by
  obtain ⟨mA, J, _⟩ := ins_get I.hok ha
  obtain ⟨od, J, _⟩ := J.look
  obtain ⟨m0, hF⟩ := I.fr
  unfold Builtin.List.listLengthHint
  refine wpAny_bind (wpAny_bind (J.type.here ((PySem.W.looks_findIn I.kIn ML.hs).here ?_)))
  refine PySem.W.KFB.if_not rfl ?_
  dsimp only
  refine wpAny_ite_split (fun _ => ?_) (fun z => absurd rfl z)
  refine wpAny_bind (wpAny_rule ?_)
  have e0 : Env0 X.prog X.w X.K X.mg X.base A1.in1 X.stack s H := by
    have e := I.env0
    exact ⟨hfr.trans e.frames, e.mod, e.bs, e.bsz, e.funs, e.frf, e.hok, e.bare⟩
  have r2 : Vals [V.ref a] [Value.ref a] := .cons rfl .nil
  have hsp := hL H fun _ _ z => z
  have hlen := FL.len _ _ _ _ hsp
  refine wpAny_bind (wpAny_attempt (PySem.W.len_K hF I.ok.mod.kin J ML.hs ML.hf (wpAny_call (codeAny_mono (FL.run A1.in1 X.stack s H ⟨[.ref a], []⟩ [.ref a] [.ref a] _ _ hr.in1 e0 (by
    have := bL s [.ref a] I.kIn (by simpa using hlen)
    simpa using this) r2 hsp) fun r s1 hq1 => ?_))))
  cases r with
  | error e => exact hq1.elim
  | ok fl =>
    cases fl with
    | next => exact False.elim hq1
    | brk => exact False.elim hq1
    | cont => exact False.elim hq1
    | ret u =>
      obtain ⟨v, H1, os1, bare1, un1, hok1, rv, ev, ex1⟩ := (show CE _ _ _ _ _ _ _ _ from hq1)
      subst ev
      obtain ⟨tk, rfl⟩ := (show ∃ tk, u = Value.int (n : Int) tk from rv)
      obtain ⟨h1, g1, d1, t1, o1⟩ := s1
      cases (show o1 = s.os from os1)
      have I1 : Inv X pins σ H1 _ := I.call (h' := h1) (g' := g1) (d' := d1) (t' := t1 + 1) (ch := []) un1 hok1 bare1 (fun b z => absurd z (by simp))
      refine ⟨⟨Int.natCast_nonneg _, by omega⟩, ?_⟩
      refine wpAny_bind (m := asInt? (.int (n : Int) _)) (wpAny_pure ?_)
      dsimp only
      have small : Builtin.List.listTooLong ((n : Int)).toNat = false := by
        rw [Int.toNat_natCast]
        unfold Builtin.List.listTooLong
        exact decide_eq_false (by rw [sizeLine_eq]; omega)
      refine PySem.W.KFB.if_not small ?_
      exact wpAny_pure (q _ _ H1 I1 un1 rfl ex1)
theorem items_same {its : List Value} {acc : Array Value} (h : ItemsOf (fun i v => its.toArray[i]? = some v) acc its.toArray.size) : acc.toList = its := by
  refine List.ext_getElem? fun j => ?_
  have h1 : acc.size = its.length := h.1.trans List.size_toArray
  cases e : acc[j]? with
  | some u =>
    have q : its.toArray[j]? = some u := h.2 j u e
    rw [List.getElem?_toArray] at q
    rw [Array.getElem?_toList, e, q]
  | none =>
    have l : acc.size ≤ j := Array.getElem?_eq_none_iff.mp e
    rw [Array.getElem?_toList, e, List.getElem?_eq_none (by omega)]
theorem lot_extend (MI : SpM X.K C fI "__iter__") (FI : FnOk X.prog X.w X.K X.mg X.base CX0 kI fI fdI psI (spIterT C f)) (bI : Binds X.K fdI psI []) (ML : SpM X.K C fL "__len__") (FL : FnOk X.prog X.w X.K X.mg X.base CX0 kL fL fdL psL spL) (bL : Binds X.K fdL psL [])
    (rI : Room kI A1.in1) (rL : Room (kL + 1) A1.in1) (hfr : A1.in1.frames = X.A.frames) (IA : Inv X pins σ HA sA) (ha : HA a = some (.ins C dx fs)) (hl : fs.lookup f = some (.ref t)) (ht : HA t = some (.tup zs)) (hz : zs.length ≤ 1000)
    (hL : TellsLen spL a HA zs.length) (hS : HA S = some (.lst [])) (hdone : ∀ s5 H5, Inv X pins σ H5 s5 → (∀ b o, b ≠ S → HA b = some o → H5 b = some o) → H5 S = some (.lst zs) → Rs (.ok (.ret .none)) s5) :
    wpAny (model X.prog X.w) A1.in1 (Builtin.List.listExtendWith (.ref S) (.ref a) .none)
      (fun fin s' => match fin with | .done g => Rs (.ok g) s' | .again cd => cd.quiet = true ∧ codeAny (model X.prog X.w) A1 cd Rs s') (fun e s' => Rs (.error e) s') sA := by
  have neq : S ≠ a := fun z => by rw [z, ha] at hS; cases hS
  obtain ⟨mA, J, _⟩ := ins_get IA.hok ha
  obtain ⟨od, J, _⟩ := J.look
  obtain ⟨m0, hF⟩ := IA.fr
  unfold Builtin.List.listExtendWith
  refine wpAny_bind (J.type.here ?_)
  have z1 : Builtin.List.listSameRef (.ref S) (.ref a) = false := by simp [Builtin.List.listSameRef, neq]
  have z2 : ((Value.ref C) == (Value.type "list")) = false := rfl
  have z3 : ((Value.ref C) == (Value.type "tuple")) = false := rfl
  simp only [z1, z2, z3, Bool.or_false, Bool.false_eq_true, if_false]
  refine wpAny_bind (PySem.W.owit_iter hF IA.ok.mod.kin J MI.hs MI.hf ?_)
  have e0 : Env0 X.prog X.w X.K X.mg X.base A1.in1 X.stack sA HA := by
    have e := IA.env0
    exact ⟨hfr.trans e.frames, e.mod, e.bs, e.bsz, e.funs, e.frf, e.hok, e.bare⟩
  have rv0 : Vals [V.ref a] [Value.ref a] := .cons rfl .nil
  have hsp : spIterT C f [.ref a] HA (fun v H' => ∃ it, HA it = none ∧ v = .ref it ∧ H' = upd HA it (TitO t it)) (fun _ _ _ => False) := ⟨a, dx, fs, t, zs, rfl, ha, hl, ht, fun it hi => ⟨it, hi, rfl, rfl⟩⟩
  have hlen := FI.len _ _ _ _ hsp
  refine wpAny_call (codeAny_mono (FI.run A1.in1 X.stack sA HA ⟨[.ref a], []⟩ [.ref a] [.ref a] _ _ rI e0 (by
    have z := bI sA [.ref a] IA.kIn (by simpa using hlen)
    simpa using z) rv0 hsp) fun r s1 hr1 => ?_)
  cases r with
  | error e => exact hr1.elim
  | ok fl =>
    cases fl with
    | next => exact False.elim hr1
    | brk => exact False.elim hr1
    | cont => exact False.elim hr1
    | ret u =>
      obtain ⟨v, H1, os1, bare1, un1, hok1, rv, it, hit, ev, eH⟩ := (show CE _ _ _ _ _ _ _ _ from hr1)
      subst ev
      subst eH
      cases (show u = Value.ref it from rv)
      obtain ⟨h1, g1, d1, t1, o1⟩ := s1
      cases (show o1 = sA.os from os1)
      have I1 : Inv X pins σ (upd HA it (TitO t it)) _ := IA.call (h' := h1) (g' := g1) (d' := d1) (t' := t1) (ch := []) un1 hok1 bare1 (fun b z => absurd z (by simp))
      have ex1 : ∀ b o, HA b = some o → upd HA it (TitO t it) b = some o := fun b o e => by rw [upd_ne (ne_of_none e hit)]; exact e
      have ti1 : h1.IsTupleIter it t 0 := (hok1 it _ upd_same).1
      show PySem.W.OwitIt _ _ _ _ _ _
      unfold PySem.W.OwitIt
      refine wpAny_specialOf (name := Str.ofString "__next__") (s := ⟨h1, g1, d1, t1, sA.os⟩) ti1.typeIs PySem.F.slot_tuple_iterator_next.lookup ?_
      dsimp only
      refine wpAny_bind (wpAny_holding (lot_hint ML FL bL rL hfr I1 (ex1 _ _ ha) hz (fun H' e => hL H' fun b o z => e b o (ex1 b o z)) fun k s2 H2 I2 un2 os2 ex2 => ?_))
      have nSi : S ≠ it := ne_of_none hS hit
      have hS2 : H2 S = some (.lst []) := ex2 _ _ (ex1 _ _ hS)
      have hT2 : H2 it = some (TitO t it) := ex2 _ _ upd_same
      have ht2 : H2 t = some (.tup zs) := ex2 _ _ (ex1 _ _ ht)
      obtain ⟨its, rvs, pl, hzz⟩ := I2.tuple (.inl (.inl ht2))
      have nti : t ≠ it := ne_of_none ht hit
      have nSt : S ≠ t := fun z => by rw [z, ht] at hS; cases hS
      have hzl := rvs.length
      have un12 : Un (frs X.stack) [] HA H2 sA.heap s2.heap := un1.trans un2
      have nit : sA.heap.get? it = none := by
        cases z : sA.heap.get? it with
        | none => rfl
        | some o =>
          have := un1.free it o z hit (by simp)
          rw [upd_same] at this
          cases this
      have loop : ∀ (s4 : Shared) (c4 : Nat), (∀ b o, b ≠ S → s2.heap.get? b = some o → s4.heap.get? b = some o) → s4.heap.get? S = some { cls := .type "list", dict := none, data := .seq #[] c4, slots := #[] } → s4.gens = s2.gens → s4.os = s2.os →
          codeAny (model X.prog X.w) A1 (.builtin "list.extend.loop" ⟨[.ref S, .ref it, .none], []⟩) Rs s4 := by
        intro s4 c4 k4 e4 q4 o4
        have hh : A1.in1.handled = none := rI.hd
        have W := (Walks.tuple (prog := X.prog) (w := X.w) (A := A1.in1) hh it t nti its.toArray).toS
        have st0 : s4.heap.IsTupleIter it t 0 ∧ s4.heap.IsTuple t its.toArray := by
          refine ⟨?_, ?_⟩
          · obtain ⟨o, ho, r⟩ := (I2.hok it _ hT2).1
            exact ⟨o, k4 _ _ (Ne.symm nSi) ho, r⟩
          · obtain ⟨o, ho, r⟩ := pl
            exact ⟨o, k4 _ _ (Ne.symm nSt) ho, r⟩
        refine codeAny_extend_loopS W (by rw [List.size_toArray, sizeLine_eq]; omega) S (by simp [nSi, nSt]) .none _ 0 s4 #[] c4 rfl (Nat.zero_le _) st0 e4 (ItemsOf.nil _) fun s5 acc c5 mv e5 hacc => ?_
        have eacc : acc.toList = its := items_same hacc
        have k5 : ∀ b o, b ≠ S → b ≠ it → s2.heap.get? b = some o → s5.heap.get? b = some o := fun b o n1 n2 e => mv.heap b o (by simp [n1, n2]) (k4 b o n1 e)
        have un5 : Un (frs X.stack) [] HA (upd (del H2 it) S (.lst zs)) sA.heap s5.heap := by
          have nS : ∀ b, HA b = none → b ≠ S := fun b n z => by rw [z, hS] at n; cases n
          have nI : ∀ b o, sA.heap.get? b = some o → b ≠ it := fun b o e z => by rw [z, nit] at e; cases e
          have old : ∀ b y, HA b = some y → (∀ xs, y ≠ .lst xs) → upd (del H2 it) S (.lst zs) b = some y := fun b y e n => by
            rw [upd_ne (fun z => by rw [z, hS] at e; cases e; exact n _ rfl), del_ne (ne_of_none e hit)]
            exact ex2 _ _ (ex1 _ _ e)
          refine ⟨fun b o e n hb hx => k5 b o (nS b n) (nI b o e) (un12.keep b o e n hb hx), fun b o e n hb hx => ?_, fun b o e n hx => ?_, fun b o e hx => ?_, fun b xs e => old b _ e (fun _ z => nomatch z), fun b o y e => old b _ e (fun _ z => nomatch z), fun b ps e => ⟨#[], ?_⟩⟩
          · obtain ⟨sl, e'⟩ := un12.slot b o e n hb hx
            exact ⟨sl, k5 b _ (nS b n) (nI b o e) e'⟩
          · rw [upd_ne (nS b n), del_ne (nI b o e)]; exact un12.free b o e n hx
          · by_cases z : b = S
            · rw [z]; exact ⟨_, e5⟩
            · obtain ⟨o', e'⟩ := un12.there b o e hx
              exact ⟨o', k5 b o' z (nI b o e) e'⟩
          · rw [old b _ e (fun _ z => nomatch z)]; simp
        have hok5 : HOk X.prog X.w (upd (del H2 it) S (.lst zs)) s5.heap := fun b y e => by
          by_cases z : b = S
          · rw [z, upd_same] at e
            cases e
            rw [z]
            refine ⟨by rw [sizeLine_eq]; omega, its, c5, rvs, ?_⟩
            rw [← eacc, Array.toArray_toList]
            exact e5
          · rw [upd_ne z] at e
            have n2 : b ≠ it := fun w => by rw [w, del_same] at e; cases e
            rw [del_ne n2] at e
            have same : ∀ c y, H2 c = some y → (∀ xs, y ≠ .lst xs) → (∀ g, y ≠ .ext g) → upd (del H2 it) S (.lst zs) c = some y := fun c y e n m => by
              rw [upd_ne (fun z => by rw [z, hS2] at e; cases e; exact n _ rfl), del_ne (fun z => by rw [z, hT2] at e; cases e; exact m _ rfl)]
              exact e
            refine (I2.hok b y e).stay (fun c x hc q => k5 c x ?_ ?_ q) (fun c q => same c _ q (fun _ w => nomatch w) (fun _ w => nomatch w)) fun c xs q => same c _ q (fun _ w => nomatch w) (fun _ w => nomatch w)
            · rcases hc with hc | hc
              · rw [hc]; exact z
              · exact fun w => by rw [w, hS2] at hc; cases hc
            · rcases hc with hc | hc
              · rw [hc]; exact n2
              · exact fun w => by rw [w, hT2] at hc; cases hc
        obtain ⟨h5, g5, d5, t5, o5⟩ := s5
        have bare5 : AllBare g5 := by
          have : g5 = s4.gens := mv.gens
          rw [this, q4]
          exact I2.bare
        cases (show o5 = sA.os from (mv.os.trans o4).trans os2)
        refine hdone _ _ (IA.call (h' := h5) (g' := g5) (d' := d5) (t' := t5) (ch := []) un5 hok5 bare5 (fun b z => absurd z (by simp))) (fun b o nb e => ?_) upd_same
        rw [upd_ne nb, del_ne (ne_of_none e hit)]
        exact ex2 _ _ (ex1 _ _ e)
      obtain ⟨z4, its4, k4, r4, hl4, e4⟩ := I2.lstM hS2
      cases r4
      refine wpAny_ite_split (fun _ => ?_) (fun _ => wpAny_pure ⟨plainId_quiet PySem.F.plain_extend_loop _, loop s2 k4 (fun _ _ _ e => e) e4 rfl rfl⟩)
      refine wpAny_bind (wpAny_rule (wpAny_bind ?_))
      show wpAny _ _ (updateSeq S (·.push .none) >>= fun _ => updateSeq S (·.pop)) _ _ _
      refine wpAny_bind (wpAny_updateSeq e4 rfl ?_)
      have q1 := PySem.IsL.update e4 (·.push Value.none)
      refine wpAny_updateSeq q1 rfl ?_ (by show 1 ≤ sizeLine; rw [sizeLine_eq]; decide) (by show 0 ≤ sizeLine + 1; exact Nat.zero_le _)
      have q2 := PySem.IsL.update q1 (·.pop)
      refine wpAny_pure ⟨plainId_quiet PySem.F.plain_extend_loop _, loop _ _ (fun b o nb e => ?_) q2 rfl rfl⟩
      exact (Heap.get?_update_other _ _ (Ne.symm nb)).trans ((Heap.get?_update_other _ _ (Ne.symm nb)).trans e)
/-- list(o) -/
def rListOT (C : Addr) (f : Str) (spL : Sp) : List V → Hp → VK → Prop := fun xs H Q => ∃ a dx fs t zs, xs = [.ref a] ∧ H a = some (.ins C dx fs) ∧ fs.lookup f = some (.ref t) ∧ H t = some (.tup zs) ∧ zs.length ≤ 1000 ∧ TellsLen spL a H zs.length ∧
  ∀ q H', H q = none → (∀ b o, H b = some o → H' b = some o) → H' q = some (.lst zs) → Q (.ref q) H'
theorem c_listOT (MI : SpM X.K C fI "__iter__") (FI : FnOk X.prog X.w X.K X.mg X.base CX0 kI fI fdI psI (spIterT C f)) (bI : Binds X.K fdI psI []) (ML : SpM X.K C fL "__len__") (FL : FnOk X.prog X.w X.K X.mg X.base CX0 kL fL fdL psL spL) (bL : Binds X.K fdL psL [])
    (rI : Room (kI + 2) X.A) (rL : Room (kL + 3) X.A) : CallR X (.type "list") (rListOT C f spL) := by
  intro pins s σ H xs us Q I rv h
  obtain ⟨a, dx, fs, t, zs, rfl, ha, hl, ht, hz, hL, hq⟩ := h
  obtain ⟨u, rfl, ru⟩ := vals1 rv
  cases (show u = Value.ref a from ru)
  refine callType_codes (Q₁ := fun ob z => ob = .ref s.heap.objs.size ∧ z = { s with heap := s.heap.push { cls := .type "list", data := .seq #[] } })
    PySem.F.called_list (PySem.F.typeCall_list_1 _) PySem.F.entry_list_init (code_list_new _ ⟨rfl, rfl⟩) fun ob z hoz => ?_
  obtain ⟨rfl, rfl⟩ := hoz
  have gS : (s.heap.push { cls := .type "list", data := .seq #[] }).get? s.heap.objs.size = some { cls := .type "list", data := .seq #[] } := Heap.get?_push_size _ rfl
  refine ⟨⟨_, gS, rfl⟩, PySem.F.args_list_init_2 _ _, ?_⟩
  have nS : H s.heap.objs.size = none := I.hok.fresh (Nat.le_refl _)
  have J1 : Inv X pins σ (upd H s.heap.objs.size (.lst [])) { s with heap := s.heap.push { cls := .type "list", data := .seq #[] } } := I.lnew (its := []) (t' := s.toks) .nil (Nat.zero_le _)
  show wpAny _ _ (do
    let old ← Builtin.List.listItems (.ref s.heap.objs.size)
    Builtin.List.listUpdate (.ref s.heap.objs.size) (fun _ => #[])
    letGo old.toList.reverse
    Builtin.List.listExtendWith (.ref s.heap.objs.size) (.ref a) .none) _ _ _
  refine wpAny_bind ?_
  unfold Builtin.List.listItems
  refine wpAny_bind (wpAny_seqItems gS rfl (wpAny_pure ?_))
  show wpAny _ _ (updateSeq s.heap.objs.size (fun _ => #[]) >>= fun _ =>
    letGo (#[] : Array Value).toList.reverse >>= fun _ =>
    Builtin.List.listExtendWith (.ref s.heap.objs.size) (.ref a) .none) _ _ _
  refine wpAny_bind (wpAny_updateSeq gS rfl ?_)
  have J2 := J1.lset (f := fun _ => #[]) (its := []) (its' := []) (ys := []) (t' := s.toks) upd_same gS rfl .nil (Nat.zero_le _)
  rw [upd_upd] at J2
  refine wpAny_bind (wpAny_letGo ?_)
  have old : ∀ b o, H b = some o → upd H s.heap.objs.size (.lst []) b = some o := fun b o e => by rw [upd_ne (ne_of_none e nS)]; exact e
  exact lot_extend (A1 := X.A.in1) (Rs := wants (fun r z => r = .none ∧ EP X pins σ Q (.ref s.heap.objs.size) z) X.xe) MI FI bI ML FL bL (Room.in1 (Room.in1 rI)) (Room.in1 (Room.in1 rL)) rfl J2 (old _ _ ha) hl (old _ _ ht) hz
    (fun H' e => hL H' fun b o z => e b o (old b o z)) upd_same
    (fun s5 H5 I5 e5 q5 => ⟨rfl, .ref s.heap.objs.size, H5, I5, rfl, hq _ H5 nS (fun b o z => e5 b o (ne_of_none z nS) (old b o z)) q5⟩)
end
end L2

/-! for x in o, o of an own class whose __iter__ gives iter(t), t a tuple of its: the iterator is young. -/
namespace L2
open PySem PySem.Spec PyProof.Rows
/-- a promise that may tell the heap's size at the entry -/
structure FnN (P : Program) (w : World) (K : PySem.W.Frag) (mg : Str → Option Value) (base : Heap) (CX : CXT) (k : Nat) (f : Addr) (fd : FuncData) (ps : List Str) (sp : Nat → Sp) : Prop where
  len : ∀ n vs H Q E, sp n vs H Q E → vs.length = ps.length
  run : ∀ (A : Around) (outer : List Env) (s : Shared) (H : Hp) (args : Args) (us : List Value) (vs : List V) (Q : VK) (E : XK), Room k A → Env0 P w K mg base A outer s H → BindsTo s fd args (ps.zip us) → Vals vs us → sp s.heap.objs.size vs H Q E →
    codeAny (model P w) A (.call (.ref f) args) (CR CX outer P w H s Q E) s
theorem Fun.okN {P : Program} {w : World} {K : PySem.W.Frag} {mg : Str → Option Value} {base : Heap} {x qual : Str} {st : Stmt} {f : Addr} {fd : FuncData} {N ps : List Str} {k : Nat} {sp : Nat → Sp} (F : Fun K x qual st f fd) (S : FnScope N ps (defScope st)) (len : ∀ n vs H Q E, sp n vs H Q E → vs.length = ps.length)
    (hb : ∀ (cdv : Value) (A : Around) (outer : List Env) (s : Shared) (H : Hp) (vs : List V) (Q : VK) (E : XK), Room k (A.deeper (envOfC qual (defScope st) s.heap.objs.size f cdv)) → sp s.heap.objs.size vs H Q E →
      ∃ t, PSs (cxOf CX0 P w K mg base N qual (defScope st) f cdv A outer s H E).nox (defBody st) t ∧ t { nx := fun _ H' => Q .non H', rt := Q } (start N vs) H) : FnN P w K mg base CX0 (k + 1) f fd ps sp := by
  obtain ⟨oc, od, kV, doc, pm, an, cdv, ct, osl, rfl, lk, hcd⟩ := F.ex
  refine ⟨len, fun A outer s H args us vs Q E hr e0 hbd r hsp => LamX.run_ofS lk hcd S hr e0 hbd r (len _ _ _ _ _ hsp) fun hr' => ?_⟩
  obtain ⟨t, h, q⟩ := hb cdv A outer s H vs Q E hr' hsp
  exact ⟨t, h.nox, q⟩
def rIterTN (K : PySem.W.Frag) (n : Nat) : List V → Hp → VK → Prop := fun xs H Q => ∃ (t : Addr) (zs : List V), xs = [.ref t] ∧ SqT K H t zs ∧ ∀ it, H it = none → n ≤ it → Q (.ref it) (upd H it (TitO t it))
section
variable {X : Cx}
theorem c_iterTN : CallR X (.builtin "iter") (rIterTN X.K X.s_0.heap.objs.size) := by
  intro pins s σ H xs us Q I r h
  obtain ⟨t, zs, rfl, hq, q⟩ := h
  obtain ⟨u, rfl, rx⟩ := vals1 r
  cases (show u = Value.ref t from rx)
  obtain ⟨its, rv, pl, hz⟩ := I.tuple hq
  refine Calls.call_function_entry (by decide +kernel) (by decide +kernel) PySem.W.kdk_entry_iter (PySem.W.kdk_args_iter _) ?_
  unfold Builtin.«iter»
  refine wpAny_bind (m := someArgs "iter" 1 2 _) (wpAny_of_eq (a := [Value.ref t]) (by first | rfl | kernel_rfl!) ?_)
  show wpAny _ _ (pyIter (.ref t) >>= _) _ _ _
  refine wpAny_bind (wpAny_pyIter_tuple pl (wpAny_pure ⟨_, rfl, ?_⟩))
  exact ⟨.ref s.heap.objs.size, _, I.laid (t' := s.toks) (fun b u e => Heap.get?_push_of_some _ e) (Nat.le_refl _) (titO_ok ⟨_, Heap.get?_push_size _ rfl, rfl, rfl⟩), rfl, q _ (I.hok.fresh (Nat.le_refl _)) I.sz⟩
def spIterN (C : Addr) (f : Str) : Nat → Sp := fun n vs H Q _ => ∃ a dx fs t zs, vs = [.ref a] ∧ H a = some (.ins C dx fs) ∧ fs.lookup f = some (.ref t) ∧ H t = some (.tup zs) ∧ ∀ it, H it = none → n ≤ it → Q (.ref it) (upd H it (TitO t it))
theorem FnN.plain {P : Program} {w : World} {K : PySem.W.Frag} {mg : Str → Option Value} {base : Heap} {k : Nat} {f C : Addr} {fd : FuncData} {ps : List Str} {g : Str} (F : FnN P w K mg base CX0 k f fd ps (spIterN C g)) : FnOk P w K mg base CX0 k f fd ps (spIterT C g) :=
  ⟨fun vs H Q E h => F.len 0 vs H Q E (let ⟨a, dx, fs, t, zs, h1, h2, h3, h4, q⟩ := h; ⟨a, dx, fs, t, zs, h1, h2, h3, h4, fun it hi _ => q it hi⟩),
   fun A outer s H args us vs Q E hr e0 hb r h => F.run A outer s H args us vs Q E hr e0 hb r (let ⟨a, dx, fs, t, zs, h1, h2, h3, h4, q⟩ := h; ⟨a, dx, fs, t, zs, h1, h2, h3, h4, fun it hi _ => q it hi⟩)⟩
/-- for .. in e, e of such a class -/
def iOwnT (K : PySem.W.Frag) (C : Addr) (f : Str) (te : TE) : TI := fun σ H R => te σ H fun x H1 => ∃ a dx fs t zs, x = .ref a ∧ H1 a = some (.ins C dx fs) ∧ fs.lookup f = some (.ref t) ∧ H1 t = some (.tup zs) ∧ R (Itt K t) H1
variable {kI : Nat} {C fI : Addr} {fdI : FuncData} {psI : List Str} {f : Str} {e tg : Expr} {te : TE}
theorem pi_ownT (MI : SpM X.K C fI "__iter__") (FI : FnN X.prog X.w X.K X.mg X.base CX0 kI fI fdI psI (spIterN C f)) (bI : Binds X.K fdI psI []) (rI : Room kI X.A) (he : PE X e te) : PI X tg e (iOwnT X.K C f te) := by
  refine ⟨fun pins s σ H R I h => ?_⟩
  refine thn (he.run pins s σ H _ I h) fun v s0 ⟨x, HA, IA, rx, a, dx, fs, t, zs, ex, ha, hl, ht, q⟩ => ?_
  subst ex
  cases (show v = Value.ref a from rx)
  obtain ⟨mA, J, _⟩ := ins_get IA.hok ha
  obtain ⟨od, J, _⟩ := J.look
  obtain ⟨m0, hF⟩ := IA.fr
  refine PySem.W.owit_iter hF IA.ok.mod.kin J MI.hs MI.hf ?_
  have rv0 : Vals [V.ref a] [Value.ref a] := .cons rfl .nil
  have hsp : spIterN C f s0.heap.objs.size [.ref a] HA (fun v H' => ∃ it, HA it = none ∧ s0.heap.objs.size ≤ it ∧ v = .ref it ∧ H' = upd HA it (TitO t it)) (fun _ _ _ => False) := ⟨a, dx, fs, t, zs, rfl, ha, hl, ht, fun it hi hn => ⟨it, hi, hn, rfl, rfl⟩⟩
  have hlen := FI.len _ _ _ _ _ hsp
  refine wpAny_call (codeAny_mono (FI.run X.A X.stack s0 HA ⟨[.ref a], []⟩ [.ref a] [.ref a] _ _ rI IA.env0 (by
    have z := bI s0 [.ref a] IA.kIn (by simpa using hlen)
    simpa using z) rv0 hsp) fun r s1 hr1 => ?_)
  cases r with
  | error e => exact hr1.elim
  | ok fl =>
    cases fl with
    | next => exact False.elim hr1
    | brk => exact False.elim hr1
    | cont => exact False.elim hr1
    | ret u =>
      obtain ⟨v, H1, I1, rv, it, hit, hy, ev, eH⟩ := IA.after hr1
      subst ev
      subst eH
      cases (show u = Value.ref it from rv)
      have ti1 : s1.heap.IsTupleIter it t 0 := (I1.hok it _ upd_same).1
      show PySem.W.OwitIt _ _ _ _ _ _
      unfold PySem.W.OwitIt
      refine wpAny_specialOf (name := Str.ofString "__next__") ti1.typeIs PySem.F.slot_tuple_iterator_next.lookup ?_
      dsimp only
      have I2 := ItX.inv_drop I1 upd_same
      have fp := ItX.inv_fp I1 upd_same (Nat.le_trans IA.sz hy)
      rw [ItX.dropH_upd hit] at I2 fp
      exact ⟨it, [it], _, _, HA, rfl, I2, turn_tuple t it, ti1, fun b hb => by rw [List.mem_singleton.mp hb]; exact fp, q⟩
end
end L2

/-! Loops and comprehensions over what is known: lists, tuples, ranges, own classes. -/
namespace AW
open PySem PySem.Spec PyProof.Rows L2
/-- what an iterator gives, as long as ka holds -/
def Gives (J : It) (xs : List V) (ka : Hp → Prop) : Prop := ∀ kn H, Ext kn H → ka kn →
  (∀ i, i < xs.length → J.go i H) ∧ (∀ i, xs.length ≤ i → J.stop i H) ∧ ∀ i x H', J.yld i H x H' → H' = H ∧ (i < xs.length → xs[i]? = some x)
def WI (c : Cw) (wi : Hp → (It → Hp → Prop) → Prop) (kn : Hp) (n : Nat) (R : It → Hp → Nat → Prop) : Prop :=
  ∀ H, Good c kn n H → ∀ R' : It → Hp → Prop, (∀ J kn' n' H', R J kn' n' → Good c kn' n' H' → R' J H') → wi H R'
section
variable {K : PySem.W.Frag} {a : Addr} {xs : List V}
theorem gives_tup : Gives (Itt K a) xs fun kn => kn a = some (.tup xs) := fun kn H e h =>
  ⟨fun i hi => ⟨xs, xs[i], sqt (e _ _ h), List.getElem?_eq_getElem hi⟩, fun i hi => ⟨xs, sqt (e _ _ h), hi⟩, fun i x H' y => ⟨y.1, fun _ => y.2 xs (sqt (e _ _ h))⟩⟩
theorem gives_lst : Gives (Itl K a) xs fun kn => kn a = some (.lst xs) := fun kn H e h =>
  ⟨fun i hi => ⟨xs, xs[i], sql (e _ _ h), List.getElem?_eq_getElem hi⟩, fun i hi => ⟨xs, sql (e _ _ h), hi⟩, fun i x H' y => ⟨y.1, fun _ => y.2 xs (sql (e _ _ h))⟩⟩
theorem gives_rng {lo : Int} {m : Nat} : Gives (Itr lo m) ((List.range m).map fun i => V.int (lo + (i : Nat))) fun _ => True := fun kn H e h =>
  ⟨fun i hi => by rw [List.length_map, List.length_range] at hi; exact hi, fun i hi => by rw [List.length_map, List.length_range] at hi; exact hi,
   fun i x H' y => ⟨y.1, fun hi => by rw [List.length_map, List.length_range] at hi; rw [List.getElem?_map, List.getElem?_range hi, y.2]; rfl⟩⟩
variable {c : Cw} {kn : Hp} {n : Nat} {σ : L2.St} {R : It → Hp → Nat → Prop} {te : TE} {ta : TA}
theorem i_tup (h : W c (te σ) kn n fun x kn1 n1 => ∃ a xs, x = .ref a ∧ kn1 a = some (.tup xs) ∧ R (Itt K a) kn1 n1) : WI c (iTup K te σ) kn n R :=
  fun H g R' q => h H g _ fun x kn1 n1 H1 ⟨a, xs, e, ha, hr⟩ g1 => ⟨a, e, ⟨xs, sqt (g1.ex _ _ ha)⟩, q _ _ _ _ hr g1⟩
theorem i_list (h : W c (te σ) kn n fun x kn1 n1 => ∃ a xs, x = .ref a ∧ kn1 a = some (.lst xs) ∧ R (Itl K a) kn1 n1) : WI c (iList K te σ) kn n R :=
  fun H g R' q => h H g _ fun x kn1 n1 H1 ⟨a, xs, e, ha, hr⟩ g1 => ⟨a, e, ⟨xs, sql (g1.ex _ _ ha)⟩, q _ _ _ _ hr g1⟩
theorem i_rng1 (h : W c (ta σ) kn n fun vs kn1 n1 => ∃ j : Int, vs = [.int j] ∧ -(2 ^ 62) ≤ j ∧ j < 2 ^ 62 ∧ R (Itr 0 j.toNat) kn1 n1) : WI c (iRng1 ta σ) kn n R :=
  fun H g R' q => h H g _ fun vs kn1 n1 H1 ⟨j, e, b1, b2, hr⟩ g1 => ⟨j, e, b1, b2, q _ _ _ _ hr g1⟩
theorem i_rng2 (h : W c (ta σ) kn n fun vs kn1 n1 => ∃ i j : Int, vs = [.int i, .int j] ∧ (-(2 ^ 62) ≤ i ∧ i < 2 ^ 62 ∧ -(2 ^ 62) ≤ j ∧ j < 2 ^ 62) ∧ R (Itr i (j - i).toNat) kn1 n1) : WI c (iRng2 ta σ) kn n R :=
  fun H g R' q => h H g _ fun vs kn1 n1 H1 ⟨i, j, e, b, hr⟩ g1 => ⟨i, j, e, b, q _ _ _ _ hr g1⟩
theorem i_own {C : Addr} {f : Str} (h : W c (te σ) kn n fun x kn1 n1 => ∃ a dx fs t zs, x = .ref a ∧ kn1 a = some (.ins C dx fs) ∧ fs.lookup f = some (.ref t) ∧ kn1 t = some (.tup zs) ∧ R (Itt K t) kn1 n1) : WI c (iOwnT K C f te σ) kn n R :=
  fun H g R' q => h H g _ fun x kn1 n1 H1 ⟨a, dx, fs, t, zs, e, ha, hl, ht, hr⟩ g1 => ⟨a, dx, fs, t, zs, e, g1.ex _ _ ha, hl, g1.ex _ _ ht, q _ _ _ _ hr g1⟩
/-- a loop -/
theorem s_forJ {D : AE} {wi : TI} {gt : TG} {tb : TS}
    (h : WI c (wi σ) kn n fun J kn1 n1 => ∃ (xs : List V) (ka : Hp → Prop) (Pv : Nat → L2.St → Hp → Nat → Prop), Gives J xs ka ∧ Pv 0 σ kn1 n1 ∧ (∀ i σ' kn' n', Pv i σ' kn' n' → ka kn') ∧
      (∀ i x σ' kn' n', xs[i]? = some x → Pv i σ' kn' n' → WG c gt x σ' kn' n' fun σ2 kn2 n2 => WS c tb { D with nx := Pv (i + 1), ct := Pv (i + 1), bk := D.nx } σ2 kn2 n2) ∧
      ∀ σ' kn' n', Pv xs.length σ' kn' n' → D.nx σ' kn' n') : WS c (tFor wi gt tb) D σ kn n := by
  intro H g D' f
  refine h H g _ fun J kn1 n1 H1 hJ g1 => ?_
  obtain ⟨xs, ka, Pv, hG, h0, hk, hs, hd⟩ := hJ
  refine ⟨fun i m σ' H' => m = xs.length - i ∧ i ≤ xs.length ∧ ∃ kn' n', Pv i σ' kn' n' ∧ Good c kn' n' H', ⟨_, rfl, Nat.zero_le _, kn1, n1, h0, g1⟩, ?_⟩
  rintro i m σ' H' ⟨rfl, hi, kn', n', p, g'⟩
  obtain ⟨q1, q2, q3⟩ := hG kn' H' g'.ex (hk _ _ _ _ p)
  by_cases hlt : i < xs.length
  · refine .inr ⟨q1 i hlt, fun σ2 H2 => ∃ kn2 n2, Pv (i + 1) σ2 kn2 n2 ∧ Good c kn2 n2 H2, fun σ2 H2 ⟨kn2, n2, p2, g2⟩ => ⟨xs.length - (i + 1), by omega, rfl, hlt, kn2, n2, p2, g2⟩, fun x H2 y => ?_⟩
    obtain ⟨e, hx⟩ := q3 i x H2 y
    subst e
    refine hs i x σ' kn' n' (hx hlt) p H2 g' _ fun σ3 kn3 n3 H3 h3 g3 => h3 H3 g3 _ ⟨fun σ4 kn4 n4 H4 h4 g4 => ⟨kn4, n4, h4, g4⟩, f.rt, fun σ4 kn4 n4 H4 h4 g4 => f.nx _ _ _ _ h4 g4, fun σ4 kn4 n4 H4 h4 g4 => ⟨kn4, n4, h4, g4⟩⟩
  · have e : i = xs.length := Nat.le_antisymm hi (Nat.le_of_not_lt hlt)
    exact .inl ⟨q2 i (Nat.le_of_not_lt hlt), f.nx _ _ _ _ (hd σ' kn' n' (e ▸ p)) g'⟩
/-- a comprehension of a list -/
theorem w_lc {Q : V → Hp → Nat → Prop} {wi : TI} {gt : TG} {tt : TT} {vs : List Nat}
    (h : WI c (wi σ) kn n fun J kn1 n1 => ∃ (xs : List V) (ka : Hp → Prop) (Pv : Addr → Nat → List V → Hp → Nat → Prop), Gives J xs ka ∧ xs.length ≤ 100000 ∧ (∀ D, kn1 D = none → Pv D 0 [] (upd kn1 D (.lst [])) n1) ∧
      (∀ D i acc kn' n', Pv D i acc kn' n' → ka kn' ∧ kn' D = some (.lst acc) ∧ acc.length ≤ i) ∧
      (∀ D i acc x kn' n', xs[i]? = some x → Pv D i acc kn' n' → WG c gt x (wipe σ vs) kn' n' fun σ2 kn2 n2 => wipe σ2 vs = wipe σ vs ∧ W c (tt σ2) kn2 n2 fun b kn3 n3 =>
        (b = true → W c (te σ2) kn3 n3 fun y kn4 n4 => kn4 D = some (.lst acc) ∧ Pv D (i + 1) (acc ++ [y]) (upd kn4 D (.lst (acc ++ [y]))) n4) ∧ (b = false → Pv D (i + 1) acc kn3 n3)) ∧
      ∀ D acc kn' n', Pv D xs.length acc kn' n' → Q (.ref D) kn' n') : W c (tLc wi gt tt te vs σ) kn n Q := by
  intro H g Q' q
  refine h H g _ fun J kn1 n1 H1 hJ g1 => ?_
  obtain ⟨xs, ka, Pv, hG, hz, h0, hk, hs, hd⟩ := hJ
  intro D hD
  refine ⟨fun i m H' => m = xs.length - i ∧ i ≤ xs.length ∧ ∃ acc kn' n', Pv D i acc kn' n' ∧ Good c kn' n' H', ⟨_, rfl, Nat.zero_le _, [], _, _, h0 D (g1.free hD), g1.new hD⟩, ?_⟩
  rintro i m H' ⟨rfl, hi, acc, kn', n', p, g'⟩
  obtain ⟨k1, k2, k3⟩ := hk _ _ _ _ _ p
  obtain ⟨q1, q2, q3⟩ := hG kn' H' g'.ex k1
  by_cases hlt : i < xs.length
  · refine .inr ⟨q1 i hlt, fun H2 => ∃ acc kn2 n2, Pv D (i + 1) acc kn2 n2 ∧ Good c kn2 n2 H2, fun H2 ⟨acc, kn2, n2, p2, g2⟩ => ⟨xs.length - (i + 1), by omega, rfl, hlt, acc, kn2, n2, p2, g2⟩, fun x H2 y => ?_⟩
    obtain ⟨e, hx⟩ := q3 i x H2 y
    subst e
    refine hs D i acc x kn' n' (hx hlt) p H2 g' _ fun σ3 kn3 n3 H3 h3 g3 => ⟨h3.1, h3.2 H3 g3 _ fun b kn4 n4 H4 h4 g4 => ?_⟩
    cases b with
    | true => exact iteT (h4.1 rfl H4 g4 _ fun y kn5 n5 H5 h5 g5 => ⟨acc, g5.ex _ _ h5.1, by rw [sizeLine_eq]; omega, _, _, _, h5.2, g5.put h5.1 rfl⟩)
    | false => exact iteF ⟨_, _, _, h4.2 rfl, g4⟩
  · have e : i = xs.length := Nat.le_antisymm hi (Nat.le_of_not_lt hlt)
    exact .inl ⟨q2 i (Nat.le_of_not_lt hlt), q _ _ _ _ (hd D acc kn' n' (e ▸ p)) g'⟩
end
end AW

namespace L2
open PySem PySem.Spec PyProof.Rows Builtin
theorem int_eq_inst (b : Int) (u : Tok) (x C dx : Addr) :
    Meets (Builtin.«int.__eq__» ⟨[.int b u, .ref x], []⟩) (fun _ R s => s.heap.get? x = some (PySem.W.instObj C dx) ∧ R (.ok (.ret .notImplemented)) s) :=
  .of_wp fun prog w A R s h => by
    obtain ⟨hp, g, d, tk, os⟩ := s
    obtain ⟨hl, h⟩ := h
    unfold PySem.W.instObj at hl
    wp_walk using wpAny_loadPart' hl, wpAny_load hl
    exact ⟨_, rfl, h⟩
theorem bool_eq_inst (b : Bool) (x C dx : Addr) :
    Meets (Builtin.«int.__eq__» ⟨[.bool b, .ref x], []⟩) (fun _ R s => s.heap.get? x = some (PySem.W.instObj C dx) ∧ R (.ok (.ret .notImplemented)) s) :=
  .of_wp fun prog w A R s h => by
    obtain ⟨hp, g, d, tk, os⟩ := s
    obtain ⟨hl, h⟩ := h
    unfold PySem.W.instObj at hl
    wp_walk using wpAny_loadPart' hl, wpAny_load hl
    exact ⟨_, rfl, h⟩
theorem str_eq_inst (b : Str) (u : Tok) (x C dx : Addr) :
    Meets (Builtin.«str.__eq__» ⟨[.str b u, .ref x], []⟩) (fun _ R s => s.heap.get? x = some (PySem.W.instObj C dx) ∧ R (.ok (.ret .notImplemented)) s) :=
  .of_wp fun prog w A R s h => by
    obtain ⟨hp, g, d, tk, os⟩ := s
    obtain ⟨hl, h⟩ := h
    unfold PySem.W.instObj at hl
    wp_walk using wpAny_loadPart' hl, wpAny_load hl
    exact ⟨_, rfl, h⟩
theorem tup_eq_inst (l x : Addr) :
    Meets (Builtin.«tuple.__eq__» ⟨[.ref l, .ref x], []⟩) (fun _ R s => (∀ (M : Model) (A : Around) (Q : Bool → Shared → Prop) (E : Value → Shared → Prop), Q false s → wpAny M A (isInstance (.ref x) (.type "tuple")) Q E s) ∧ R (.ok (.ret .notImplemented)) s) :=
  .of_wp fun prog w A R s h => by
    obtain ⟨hp, g, d, tk, os⟩ := s
    obtain ⟨hl, h⟩ := h
    wp_walk using hl _ _ _ _
    exact ⟨_, rfl, h⟩
theorem lst_eq_inst (l x : Addr) :
    Meets (Builtin.«list.__eq__» ⟨[.ref l, .ref x], []⟩) (fun _ R s => (∀ (M : Model) (A : Around) (Q : Bool → Shared → Prop) (E : Value → Shared → Prop), Q false s → wpAny M A (isInstance (.ref x) (.type "list")) Q E s) ∧ R (.ok (.ret .notImplemented)) s) :=
  .of_wp fun prog w A R s h => by
    obtain ⟨hp, g, d, tk, os⟩ := s
    obtain ⟨hl, h⟩ := h
    wp_walk using hl _ _ _ _
    exact ⟨_, rfl, h⟩
section
variable {prog : Program} {w : World} {A : Around} {E : Value → Shared → Prop} {s : Shared} {K : PySem.W.Frag} {x C f : Addr} {ox : Obj} {od : Option Obj} {b : Value} {T id : String} {Q : Value → Shared → Prop}
/-- b == x, b of a built-in type that declines, x's class has an own == -/
theorem eq_back (hu : A.units < cLine) (X : K.In s.heap) (I : PySem.W.InstAt s.heap x ox C od) (hT : s.TypeIs b T) (slot : Slot T "__eq__" id) (hs : PySem.W.findIn K (.ref C) "__eq__" = some (some (.ref f))) (hf : PySem.W.isFn K (.ref f) = true) (sub : PySem.W.subIn K (.ref C) (.type T) = some false)
    (dec : ∀ (P : Value → Shared → Prop) (E' : Value → Shared → Prop), P .notImplemented s → wpAny (model prog w) A (call (.builtin id) [b, .ref x]) P E' s)
    (h : wpAny (model prog w) A (call (.ref f) [.ref x, b]) (PySem.W.CmpBack Q) E s) : wpAny (model prog w) A (richCompare .Eq b (.ref x)) Q E s := by
  have ne : ((Value.type T) != (Value.ref C)) = true := rfl
  simp only [richCompare, cmpInfo_Eq, hT.oneThing_none]
  refine wpAny_holding (wpAny_bind (wpAny_cRoomFor hu ?_))
  refine wpAny_bind (wpAny_typeOf hT ?_)
  refine wpAny_bind (I.type.here ?_)
  rw [if_pos ne]
  refine wpAny_bind ((PySem.W.looks_subIn X sub).here ?_)
  simp only [Bool.false_eq_true, if_false, Bool.not_false, if_true]
  refine wpAny_bind (m := tryCompare b _ (.ref x)) (wpAny_tryCompare_declines hT slot (dec _ _ ⟨rfl, ?_⟩))
  refine wpAny_bind (m := tryCompare (.ref x) _ b) ?_
  unfold tryCompare
  refine wpAny_bind (PySem.W.ifBound_K X I hs hf (wpAny_mono h (fun v s' hv => ?_) fun _ _ e => e))
  cases v <;> first | exact hv.elim | exact wpAny_pure (wpAny_pure hv)
end
end L2

/-! x in a list, where == of an item may run a def of the text. -/
namespace L2
open PySem PySem.Spec PyProof.Rows PySem.SeqAt
abbrev lstOf (items : Array Value) (n : Nat) : Obj := { cls := .type "list", dict := none, data := .seq items n, slots := #[] }
/-- the turns that are left, the spot -/
def EqChain (prog : Program) (w : World) (A : Around) (l : Addr) (x : Value) : Nat → Nat → (Result → Shared → Prop) → Shared → Prop
  | 0, i, R, s => ∃ items n, s.heap.get? l = some (lstOf items n) ∧ items[i]? = none ∧ R (.ok (.ret (.bool false))) s
  | m + 1, i, R, s => ∃ items n y, s.heap.get? l = some (lstOf items n) ∧ items[i]? = some y ∧ wpAny (model prog w) A (eqBool y x) (fun b s' => (b = true → R (.ok (.ret (.bool true))) s') ∧ (b = false → EqChain prog w A l x m (i + 1) R s')) (fun e s' => R (.error e) s') s
theorem contains_chain {prog : Program} {w : World} {l : Addr} {x : Value} (m : Nat) :
    ∀ i : Nat, MeetsIn prog w (Builtin.«list.__contains__.loop» ⟨[.ref l, x, rawInt i], []⟩) (fun A R s => EqChain prog w A.in1 l x m i R s) := by
  induction m with
  | zero =>
    intro i A R s h
    obtain ⟨hp, g, d, tk, os⟩ := s
    obtain ⟨items, n, hl, hi, h⟩ := h
    wp_walk using wpAny_loadPart' hl
    have none_at : items[((i : Nat) : Int).toNat]? = none := by simpa using hi
    rw [none_at]
    wp_walk
    exact h
  | succ m ih =>
    intro i A R s h
    obtain ⟨hp, g, d, tk, os⟩ := s
    obtain ⟨items, n, y, hl, hi, h⟩ := h
    wp_walk using wpAny_loadPart' hl
    have some_at : items[((i : Nat) : Int).toNat]? = some y := by simpa using hi
    rw [some_at]
    refine wpAny_bind (wpAny_mono h (fun b s' hb => ?_) fun _ _ z => z)
    obtain ⟨ht, hf⟩ := hb
    cases b with
    | true =>
      wp_walk
      exact ht rfl
    | false =>
      have cast1 : ((i : Int) + 1) = ((i + 1 : Nat) : Int) := by push_cast; rfl
      wp_walk
      rw [cast1]
      refine ⟨plainId_quiet MeetsSeq.plain_contains_loop _, codeAny_builtin MeetsSeq.entry_contains_loop ?_⟩
      rw [Around.under_plainId MeetsSeq.plain_contains_loop _]
      exact ih (i + 1) A R s' (hf rfl)
theorem contains_list {prog : Program} {w : World} {l : Addr} {x : Value} (m : Nat) :
    MeetsIn prog w (Builtin.«list.__contains__» ⟨[.ref l, x], []⟩) (fun A R s => s.TypeIs (.ref l) "list" ∧ EqChain prog w A.in1 l x m 0 R s) := by
  intro A R s h
  obtain ⟨hp, g, d, tk, os⟩ := s
  obtain ⟨hl, h⟩ := h
  wp_walk
  refine ⟨plainId_quiet MeetsSeq.plain_contains_loop _, codeAny_builtin MeetsSeq.entry_contains_loop ?_⟩
  rw [Around.under_plainId MeetsSeq.plain_contains_loop _]
  exact contains_chain m 0 A R _ h
theorem in_chain {prog : Program} {w : World} {A : Around} {E : Value → Shared → Prop} {s : Shared} {l : Addr} {x : Value} {Q : Value → Shared → Prop} (m : Nat) (hl : s.TypeIs (.ref l) "list")
    (h : EqChain prog w A.in1 l x m 0 (wants (fun v s' => ∃ b, v = .bool b ∧ Q (.bool b) s') E) s) : wpAny (model prog w) A (compareOp .In x (.ref l)) Q E s := by
  show wpAny _ A (do return .bool (← contains (.ref l) x)) Q E s
  refine wpAny_bind (wpAny_contains_slot (T := "list") hl F.slot_list_contains (wpAny_mono (call_meetsIn F.slot_list_contains hl F.entry_list_contains (F.args_list_contains_2 _ _) (contains_list m) ⟨hl, h⟩) (fun v s' hv => ?_) fun _ _ e => e))
  obtain ⟨b, rfl, hq⟩ := hv
  exact wpAny_truthy_bool (wpAny_pure hq)
end L2

/-! o in a list of built-in values, o of an own class with an own ==. -/
namespace L2
open PySem PySem.Spec PyProof.Rows PySem.SeqAt
/-- a built-in value whose == leaves the answer to the class at C -/
inductive BackV (K : PySem.W.Frag) (H : Hp) (C : Addr) : V → Prop where
  | non (h : PySem.W.subIn K (.ref C) (.type "NoneType") = some false) : BackV K H C .non
  | bl (b : Bool) (h : PySem.W.subIn K (.ref C) (.type "bool") = some false) : BackV K H C (.bl b)
  | int (i : Int) (h : PySem.W.subIn K (.ref C) (.type "int") = some false) : BackV K H C (.int i)
  | str (x : Str) (h : PySem.W.subIn K (.ref C) (.type "str") = some false) : BackV K H C (.str x)
  | lst {l : Addr} {xs : List V} (e : H l = some (.lst xs)) (h : PySem.W.subIn K (.ref C) (.type "list") = some false) : BackV K H C (.ref l)
  | tup {l : Addr} {xs : List V} (e : H l = some (.tup xs)) (h : PySem.W.subIn K (.ref C) (.type "tuple") = some false) : BackV K H C (.ref l)
def InCh (K : PySem.W.Frag) (C a l : Addr) (vs : List V) (sp : Sp) : List V → Hp → VK → Prop
  | [], H, Q => Q (.bl false) H
  | v :: r, H, Q => BackV K H C v ∧ sp [.ref a, v] H (fun u H1 => ∃ b, u = .bl b ∧ H1 l = some (.lst vs) ∧ (∃ dx fs, H1 a = some (.ins C dx fs)) ∧ (b = true → Q (.bl true) H1) ∧ (b = false → InCh K C a l vs sp r H1 Q)) (fun _ _ _ => False)
def rInLO (K : PySem.W.Frag) (C : Addr) (sp : Sp) : R2 := fun x y H Q => ∃ a dx fs l vs, x = .ref a ∧ y = .ref l ∧ H a = some (.ins C dx fs) ∧ H l = some (.lst vs) ∧ InCh K C a l vs sp vs H Q
section
variable {X : Cx} {CX : CXT} {k : Nat} {f C a l : Addr} {fd : FuncData} {ps : List Str} {sp : Sp} {pins : List (Addr × Obj)} {σ : St} {H : Hp} {s : Shared} {v : V} {u : Value} {dx : Addr} {fs : List (Str × V)}
theorem eqBool_back {A : Around} {Q : Bool → Shared → Prop} {E : Value → Shared → Prop} (hu : A.units < cLine) (M : EqM X.K C f) (I : Inv X pins σ H s) (ha : H a = some (.ins C dx fs)) (b : BackV X.K H C v) (r : RelV v u)
    (h : wpAny (model X.prog X.w) A (call (.ref f) [.ref a, u]) (PySem.W.CmpBack fun z s' => wpAny (model X.prog X.w) A (truthOfDropped z) Q E s') E s) : wpAny (model X.prog X.w) A (eqBool u (.ref a)) Q E s := by
  obtain ⟨mA, J, _⟩ := ins_get I.hok ha
  obtain ⟨od, J, _⟩ := J.look
  have KI := I.kIn
  have isI : ∀ {T : String}, PySem.W.subIn X.K (.ref C) (.type T) = some false → ∀ (M : Model) (A : Around) (Q : Bool → Shared → Prop) (E : Value → Shared → Prop), Q false s → wpAny M A (isInstance (.ref a) (.type T)) Q E s := fun {T} h M' A' Q' E' q => (J.type.andThen (f := fun t => isSubtype t (.type T)) (PySem.W.looks_subIn KI h)).here q
  unfold eqBool
  refine wpAny_holding ?_
  cases b with
  | non hs =>
    cases (show u = Value.none from r)
    refine wpAny_ite_split (fun z => absurd (eq_of_beq z) nofun) (fun _ => ?_)
    refine wpAny_bind (eq_back hu KI J (T := "NoneType") rfl F.slot_NoneType_eq M.hs M.hf hs (fun P E' p => call_gives F.slot_NoneType_eq rfl F.entry_NoneType_eq (F.args_NoneType_eq_2 _ _) (NoneType___eq___none_ref_0 a) p) h)
  | bl y hs =>
    cases (show u = Value.bool y from r)
    refine wpAny_ite_split (fun z => absurd (eq_of_beq z) nofun) (fun _ => ?_)
    refine wpAny_bind (eq_back hu KI J (T := "bool") rfl F.slot_bool_eq M.hs M.hf hs (fun P E' p => call_meets F.slot_bool_eq rfl F.entry_int_eq (F.args_int_eq_2 _ _) (bool_eq_inst y a C dx) ⟨J.1, p⟩) h)
  | int y hs =>
    obtain ⟨t, rfl⟩ := (show ∃ t, u = Value.int y t from r)
    refine wpAny_ite_split (fun z => absurd (eq_of_beq z) nofun) (fun _ => ?_)
    refine wpAny_bind (eq_back hu KI J (T := "int") (typeIs_int _ _ _) F.slot_int_eq M.hs M.hf hs (fun P E' p => call_meets F.slot_int_eq (typeIs_int _ _ _) F.entry_int_eq (F.args_int_eq_2 _ _) (int_eq_inst y t a C dx) ⟨J.1, p⟩) h)
  | str y hs =>
    obtain ⟨t, rfl⟩ := (show ∃ t, u = Value.str y t from r)
    refine wpAny_ite_split (fun z => absurd (eq_of_beq z) nofun) (fun _ => ?_)
    refine wpAny_bind (eq_back hu KI J (T := "str") (typeIs_str _ _ _) F.slot_str_eq M.hs M.hf hs (fun P E' p => call_meets F.slot_str_eq (typeIs_str _ _ _) F.entry_str_eq (F.args_str_eq_2 _ _) (str_eq_inst y t a C dx) ⟨J.1, p⟩) h)
  | @lst l xs e hs =>
    cases (show u = Value.ref l from r)
    have ne : l ≠ a := fun z => by rw [z, ha] at e; cases e
    obtain ⟨_, its, n, _, _, e1⟩ := I.lstM e
    refine wpAny_ite_split (fun z => absurd (Value.ref.inj (eq_of_beq z)) ne) (fun _ => ?_)
    refine wpAny_bind (eq_back hu KI J (T := "list") ⟨_, e1, rfl⟩ F.slot_list_eq M.hs M.hf hs (fun P E' p => call_meets F.slot_list_eq ⟨_, e1, rfl⟩ F.entry_list_eq (F.args_list_eq_2 _ _) (lst_eq_inst l a) ⟨isI hs, p⟩) h)
  | @tup l xs e hs =>
    cases (show u = Value.ref l from r)
    have ne : l ≠ a := fun z => by rw [z, ha] at e; cases e
    obtain ⟨its, _, pl, _⟩ := I.tuple (.inl (.inl e))
    obtain ⟨o, ho, hc, _⟩ := pl
    refine wpAny_ite_split (fun z => absurd (Value.ref.inj (eq_of_beq z)) ne) (fun _ => ?_)
    refine wpAny_bind (eq_back hu KI J (T := "tuple") ⟨o, ho, hc⟩ F.slot_tuple_eq M.hs M.hf hs (fun P E' p => call_meets F.slot_tuple_eq ⟨o, ho, hc⟩ F.entry_tuple_eq (F.args_tuple_eq_2 _ _) (tup_eq_inst l a) ⟨isI hs, p⟩) h)
theorem in_walk {Q : VK} (hu : X.A.in1.units < cLine) (M : EqM X.K C f) (F : FnOk X.prog X.w X.K X.mg X.base CX k f fd ps sp) (hr : Room k X.A.in1) (hb : Binds X.K fd ps []) (hx : Passes CX X (fun _ _ _ => False)) {vs : List V} :
    ∀ (r done : List V) (H : Hp) (s : Shared), vs = done ++ r → Inv X pins σ H s → (∃ dx fs, H a = some (.ins C dx fs)) → H l = some (.lst vs) → InCh X.K C a l vs sp r H Q →
      EqChain X.prog X.w X.A.in1 l (.ref a) r.length done.length (wants (fun v s' => ∃ b, v = .bool b ∧ EP X pins σ Q (.bool b) s') X.xe) s := by
  intro r
  induction r with
  | nil =>
    intro done H s e I ha hl h
    obtain ⟨_, its, n, rv, hlen, e1⟩ := I.lstM hl
    refine ⟨its.toArray, n, e1, ?_, ⟨false, rfl, .bl false, H, I, rfl, h⟩⟩
    rw [List.getElem?_toArray, List.getElem?_eq_none]
    rw [← hlen, e, List.append_nil]
    exact Nat.le_refl _
  | cons v r ih =>
    intro done H s e I ha hl h
    obtain ⟨dx, fs, ha⟩ := ha
    obtain ⟨bv, hsp⟩ := h
    obtain ⟨_, its, n, rv, hlen, e1⟩ := I.lstM hl
    have at_v : vs[done.length]? = some v := by rw [e]; simp
    obtain ⟨u, hu1, ru⟩ := rv.get at_v
    refine ⟨its.toArray, n, u, e1, by rw [List.getElem?_toArray]; exact hu1, ?_⟩
    refine eqBool_back hu M I ha bv ru (wpAny_mono (callA (A := X.A.in1) (vs := [.ref a, v]) F hr rfl hb hx I (.cons rfl (.cons ru .nil)) hsp) (fun z s' hz => ?_) fun _ _ z => z)
    obtain ⟨v', H', I', rv', b, eb, hl', ha', ht, hf⟩ := hz
    subst eb
    cases (show z = Value.bool b from rv')
    show wpAny _ _ (truthOfDropped (.bool b)) _ _ _
    refine (show wpAny _ _ (truthy (.bool b)) _ _ _ from wpAny_truthy_bool ⟨fun hbt => ?_, fun hbf => ?_⟩)
    · exact ⟨true, rfl, .bl true, H', I', rfl, ht hbt⟩
    · have q := ih (done ++ [v]) H' s' (by rw [e]; simp) I' ha' hl' (hf hbf)
      rw [List.length_append] at q
      exact q
theorem op_inLO (M : EqM X.K C f) (F : FnOk X.prog X.w X.K X.mg X.base CX k f fd ps sp) (hr : Room (k + 1) X.A) (hb : Binds X.K fd ps []) (hx : Passes CX X (fun _ _ _ => False)) : OpR X (compareOp .In) (rInLO X.K C sp) := by
  intro pins s σ H x y v u Q I rx ry h
  obtain ⟨a, dx, fs, l, vs, rfl, rfl, ha, hl, h⟩ := h
  cases (show v = Value.ref a from rx)
  cases (show u = Value.ref l from ry)
  obtain ⟨_, its, n, _, _, e1⟩ := I.lstM hl
  exact in_chain vs.length ⟨_, e1, rfl⟩ (in_walk hr.in1.units0 M F hr.in1 hb hx vs [] H s rfl I ⟨dx, fs, ha⟩ hl h)
end
end L2
namespace AW
open PySem PySem.Spec PyProof.Rows L2
theorem backV_ext {K : PySem.W.Frag} {H H' : Hp} {C : Addr} {v : V} (e : Ext H H') (b : BackV K H C v) : BackV K H' C v := by
  cases b with
  | non h => exact .non h
  | bl b h => exact .bl b h
  | int i h => exact .int i h
  | str x h => exact .str x h
  | lst q h => exact .lst (e _ _ q) h
  | tup q h => exact .tup (e _ _ q) h
/-- none of the items is equal -/
theorem r_inL_no {K : PySem.W.Frag} {c : Cw} {kn : Hp} {n : Nat} {Q : V → Hp → Nat → Prop} {B : List V → Hp → AK → AXK → Prop} {C a l dx : Addr} {fs : List (Str × V)} {vs : List V} (hm : MonoX B) (ha : kn a = some (.ins C dx fs)) (hl : kn l = some (.lst vs))
    (hv : ∀ v ∈ vs, BackV K kn C v ∧ B [.ref a, v] kn (fun u k => u = .bl false ∧ k = kn) (fun _ _ _ => False)) (q : Q (.bl false) kn n) : W c (rInLO K C (liftX B) (.ref a) (.ref l)) kn n Q := by
  intro H g Q' k
  have walk : ∀ (r : List V), (∀ v ∈ r, v ∈ vs) → ∀ H, Good c kn n H → InCh K C a l vs (liftX B) r H Q' := by
    intro r
    induction r with
    | nil => exact fun _ H g => k _ _ _ _ q g
    | cons v r ih =>
      intro hr H g
      obtain ⟨b, h⟩ := hv v (hr v List.mem_cons_self)
      refine ⟨backV_ext g.ex b, kn, g.ex, g.nt, hm _ _ _ _ _ _ (fun u k' hu n' H' g' => ?_) (fun _ _ _ z => z.elim) h⟩
      obtain ⟨rfl, rfl⟩ := hu
      have g2 : Good c k' n H' := g.back g'
      exact ⟨false, rfl, g2.ex _ _ hl, ⟨dx, fs, g2.ex _ _ ha⟩, (fun z => nomatch z), fun _ => ih (fun w hw => hr w (List.mem_cons_of_mem _ hw)) H' g2⟩
  exact ⟨a, dx, fs, l, vs, rfl, rfl, g.ex _ _ ha, g.ex _ _ hl, walk vs (fun _ z => z) H g⟩
end AW

/-! An own operator whose right operand is of another own class; built-in == own; repr of any data; properties. -/
namespace OX
open PySem PySem.W PySem.Calls PyProof.Rows Builtin
section
variable {prog : Program} {w : World} {A : Around} {E : Value → Shared → Prop} {s : Shared} {K : Frag} {x C D f : Addr} {ox : Obj} {od : Option Obj} {b : Value}
theorem noNumber {M : Model} {h : Heap} {nm : String} {cd : ClassData} (X : K.In h) (hc : clsIn K D = some cd) (hm : cd.mro = [.ref D, .type "object"]) (h1 : findIn K (.ref D) (PySem.dunder nm) = some none) (h2 : findIn K (.ref D) (dunderR nm) = some none)
    (o1 : typeLookup (.type "object") (PySem.dunder nm) = pure none) (o2 : typeLookup (.type "object") (dunderR nm) = pure none) : Looks M h (fillsNumberSlot (.ref D) nm) false := by
  intro A Q E s k q
  unfold fillsNumberSlot
  dsimp only
  refine wpAny_bind ((looks_clsIn X hc).andThen (f := fun cd => pure cd.mro) .now A _ E s k ?_)
  rw [hm, List.anyM_cons]
  refine wpAny_bind ?_
  dsimp only
  rw [List.anyM_cons]
  refine wpAny_bind (wpAny_bind (looks_findIn X h1 A _ E s k ?_))
  dsimp only
  refine wpAny_pure ?_
  simp only [Bool.false_eq_true, if_false]
  rw [List.anyM_cons]
  refine wpAny_bind (wpAny_bind (looks_findIn X h2 A _ E s k ?_))
  dsimp only
  refine wpAny_pure ?_
  simp only [Bool.false_eq_true, if_false, List.anyM_nil]
  refine wpAny_pure ?_
  simp only [Bool.false_eq_true, if_false]
  rw [List.anyM_cons, o1, o2]
  refine wpAny_bind (wpAny_bind (wpAny_pure (wpAny_bind (wpAny_pure ?_))))
  refine wpAny_pure ?_
  simp only [Option.isSome_none, Bool.false_and, Bool.or_self, Bool.false_eq_true, if_false, List.anyM_nil]
  exact wpAny_pure q
theorem binop1_D {nm : String} {Q : Value → Shared → Prop} (X : K.In s.heap) (I : InstAt s.heap x ox C od) (hb : Looks (model prog w) s.heap (typeOf b) (.ref D)) (hc : selfFirst K C = true)
    (hs : findIn K (.ref C) (PySem.dunder nm) = some (some (.ref f))) (hf : isFn K (.ref f) = true) (fill : Looks (model prog w) s.heap (fillsNumberSlot (.ref D) nm) false)
    (h : wpAny (model prog w) A (call (.ref f) [.ref x, b]) (PySem.W.CmpBack Q) E s) : wpAny (model prog w) A (binaryOp1 nm (.ref x) b) (fun r s' => ∃ v, r = some v ∧ Q v s') E s := by
  obtain ⟨cd, hcd, hm⟩ := any_some hc
  obtain ⟨rest, hm⟩ : ∃ rest, cd.mro = .ref C :: rest := by
    cases q : cd.mro with
    | nil => rw [q] at hm; cases hm
    | cons a r => rw [q] at hm; exact ⟨r, by rw [List.head?_cons] at hm; cases (beq_iff_eq.mp hm); rfl⟩
  have last : ∀ {α : Type} (k : Option Value → Sem α) (P : α → Shared → Prop), (∀ v s', PySem.W.CmpBack Q v s' → wpAny (model prog w) A (k (some v)) P E s') → wpAny (model prog w) A (tryMethod (.ref x) (PySem.dunder nm) b >>= k) P E s := fun k P hk => by
    refine wpAny_bind ?_
    unfold tryMethod
    refine wpAny_bind (special_fn X I hs (beq_iff_eq.mp hf) (wpAny_mono h (fun v s' hv => ?_) fun _ _ e => e))
    cases v <;> first | exact hv.elim | exact wpAny_pure (hk _ _ hv)
  unfold binaryOp1
  refine wpAny_bind (I.type.here (wpAny_bind (hb.here (wpAny_bind ((fills_K X hcd hm hs).here ?_)))))
  cases q : (Value.ref C == Value.ref D) with
  | true =>
    simp only [if_true]
    refine wpAny_bind (wpAny_pure ?_)
    simp only [Bool.and_false, Bool.false_eq_true, if_false, Bool.false_and]
    refine wpAny_bind (wpAny_pure ?_)
    simp only [Bool.false_eq_true, if_false]
    refine last _ _ fun v s' hv => ?_
    cases v <;> first | exact hv.elim | exact wpAny_pure ⟨_, rfl, hv⟩
  | false =>
    simp only [Bool.false_eq_true, if_false]
    refine wpAny_bind (fill.here ?_)
    simp only [Bool.and_false, Bool.false_eq_true, if_false, Bool.false_and]
    refine wpAny_bind (wpAny_pure ?_)
    simp only [Bool.false_eq_true, if_false, if_true]
    refine last _ _ fun v s' hv => ?_
    cases v <;> first | exact hv.elim | exact wpAny_pure ⟨_, rfl, hv⟩
end
end OX
namespace L2
open PySem PySem.Spec PyProof.Rows PySem.SeqAt
/-- the class at D has nothing to say in an operator -/
structure NoNum (K : PySem.W.Frag) (op : Operator) (D : Addr) : Prop where
  cd : ∃ cd, PySem.W.clsIn K D = some cd ∧ cd.mro = [.ref D, .type "object"]
  h1 : PySem.W.findIn K (.ref D) (PySem.dunder op.info.2) = some none
  h2 : PySem.W.findIn K (.ref D) (dunderR op.info.2) = some none
  o1 : typeLookup (.type "object") (PySem.dunder op.info.2) = pure none
  o2 : typeLookup (.type "object") (dunderR op.info.2) = pure none
def rOwnD (K : PySem.W.Frag) (op : Operator) (C D : Addr) (sp : Sp) (E : XK) : R2 := fun x y H Q => ∃ a dx fs b dy gs, x = .ref a ∧ y = .ref b ∧ H a = some (.ins C dx fs) ∧ H b = some (.ins D dy gs) ∧ sp [.ref a, .ref b] H Q E
section
variable {X : Cx} {CX : CXT} {k : Nat} {f C D : Addr} {fd : FuncData} {ps : List Str} {sp : Sp} {E : XK}
theorem op_ownD {op : Operator} (M : OpM X.K op C f) (N : NoNum X.K op D) (O : OwnC X.K D) (F : FnOk X.prog X.w X.K X.mg X.base CX k f fd ps sp) (hr : Room k X.A) (hb : Binds X.K fd ps []) (hx : Passes CX X E) : OpR X (binaryOp op) (rOwnD X.K op C D sp E) := by
  intro pins s σ H x y v u Q I rx ry h
  obtain ⟨a, dx, fs, b, dy, gs, rfl, rfl, ha, hb', hq⟩ := h
  cases rx
  have ry' := ry
  cases ry'
  obtain ⟨mA, J, _⟩ := ins_get I.hok ha
  obtain ⟨od, J, _⟩ := J.look
  have hbt := typeOf_of I ry (O.ty hb')
  obtain ⟨cd, c1, c2⟩ := N.cd
  have hc : wpAny (model X.prog X.w) X.A (call (.ref f) [.ref a, .ref b]) (PySem.W.CmpBack (EP X pins σ Q)) X.xe s :=
    wpAny_mono (callA (vs := [.ref a, .ref b]) F hr rfl hb hx I (.cons rfl (.cons ry .nil)) hq) (fun z s' hz => by
      obtain ⟨v', H', I', rv, q⟩ := id hz
      exact relV_ni rv hz) fun _ _ z => z
  exact OX.binop_of (OX.binop1_D I.kIn J hbt M.self M.hs M.hf (OX.noNumber I.kIn c1 c2 N.h1 N.h2 N.o1 N.o2) hc)
/-- x == o or o == x, o of an own class with an own ==, x of a built-in type -/
def rEqU (K : PySem.W.Frag) (C : Addr) (sp : Sp) : R2 := fun x y H Q => rEqO K C sp false x y H Q ∨ ∃ a dx fs, y = .ref a ∧ H a = some (.ins C dx fs) ∧ BackV K H C x ∧ sp [.ref a, x] H (fun v H' => ∃ b, v = .bl b ∧ Q (.bl b) H') (fun _ _ _ => False)
theorem op_eqU (M : EqM X.K C f) (F : FnOk X.prog X.w X.K X.mg X.base CX k f fd ps sp) (hr : Room (k + 1) X.A) (hb : Binds X.K fd ps []) (hx : Passes CX X (fun _ _ _ => False)) : OpR X (compareOp .Eq) (rEqU X.K C sp) := by
  intro pins s σ H x y v u Q I rx ry h
  rcases h with h | ⟨a, dx, fs, rfl, ha, bv, hq⟩
  · exact op_eqO M F hr hb hx pins s σ H x y v u Q I rx ry h
  cases (show u = Value.ref a from ry)
  obtain ⟨mA, J, _⟩ := ins_get I.hok ha
  obtain ⟨od, J, _⟩ := J.look
  have KI := I.kIn
  have hu : X.A.units < cLine := hr.units0
  have isI : ∀ {T : String}, PySem.W.subIn X.K (.ref C) (.type T) = some false → ∀ (M : Model) (A : Around) (Q : Bool → Shared → Prop) (E : Value → Shared → Prop), Q false s → wpAny M A (isInstance (.ref a) (.type T)) Q E s := fun {T} h M' A' Q' E' q => (J.type.andThen (f := fun t => isSubtype t (.type T)) (PySem.W.looks_subIn KI h)).here q
  have h : wpAny (model X.prog X.w) X.A (call (.ref f) [.ref a, v]) (PySem.W.CmpBack (EP X pins σ Q)) X.xe s :=
    wpAny_mono (callA (vs := [.ref a, x]) F (hr.mono (Nat.le_succ _)) rfl hb hx I (.cons rfl (.cons rx .nil)) hq) (fun z s' hz => by
      obtain ⟨v', H', I', rv, b, e, q⟩ := hz
      subst e
      cases (show z = Value.bool b from rv)
      exact ⟨.bl b, H', I', rfl, q⟩) fun _ _ z => z
  show wpAny (model X.prog X.w) X.A (richCompare .Eq v (.ref a)) (EP X pins σ Q) X.xe s
  cases bv with
  | non hs =>
    cases (show v = Value.none from rx)
    exact eq_back hu KI J (T := "NoneType") rfl PySem.F.slot_NoneType_eq M.hs M.hf hs (fun P E' p => call_gives PySem.F.slot_NoneType_eq rfl PySem.F.entry_NoneType_eq (PySem.F.args_NoneType_eq_2 _ _) (NoneType___eq___none_ref_0 a) p) h
  | bl y hs =>
    cases (show v = Value.bool y from rx)
    exact eq_back hu KI J (T := "bool") rfl PySem.F.slot_bool_eq M.hs M.hf hs (fun P E' p => call_meets PySem.F.slot_bool_eq rfl PySem.F.entry_int_eq (PySem.F.args_int_eq_2 _ _) (bool_eq_inst y a C dx) ⟨J.1, p⟩) h
  | int y hs =>
    obtain ⟨t, rfl⟩ := (show ∃ t, v = Value.int y t from rx)
    exact eq_back hu KI J (T := "int") (typeIs_int _ _ _) PySem.F.slot_int_eq M.hs M.hf hs (fun P E' p => call_meets PySem.F.slot_int_eq (typeIs_int _ _ _) PySem.F.entry_int_eq (PySem.F.args_int_eq_2 _ _) (int_eq_inst y t a C dx) ⟨J.1, p⟩) h
  | str y hs =>
    obtain ⟨t, rfl⟩ := (show ∃ t, v = Value.str y t from rx)
    exact eq_back hu KI J (T := "str") (typeIs_str _ _ _) PySem.F.slot_str_eq M.hs M.hf hs (fun P E' p => call_meets PySem.F.slot_str_eq (typeIs_str _ _ _) PySem.F.entry_str_eq (PySem.F.args_str_eq_2 _ _) (str_eq_inst y t a C dx) ⟨J.1, p⟩) h
  | @lst l xs e hs =>
    cases (show v = Value.ref l from rx)
    obtain ⟨_, its, n, _, _, e1⟩ := I.lstM e
    exact eq_back hu KI J (T := "list") ⟨_, e1, rfl⟩ PySem.F.slot_list_eq M.hs M.hf hs (fun P E' p => call_meets PySem.F.slot_list_eq ⟨_, e1, rfl⟩ PySem.F.entry_list_eq (PySem.F.args_list_eq_2 _ _) (lst_eq_inst l a) ⟨isI hs, p⟩) h
  | @tup l xs e hs =>
    cases (show v = Value.ref l from rx)
    obtain ⟨its, _, pl, _⟩ := I.tuple (.inl (.inl e))
    obtain ⟨o, ho, hc, _⟩ := pl
    exact eq_back hu KI J (T := "tuple") ⟨o, ho, hc⟩ PySem.F.slot_tuple_eq M.hs M.hf hs (fun P E' p => call_meets PySem.F.slot_tuple_eq ⟨o, ho, hc⟩ PySem.F.entry_tuple_eq (PySem.F.args_tuple_eq_2 _ _) (tup_eq_inst l a) ⟨isI hs, p⟩) h
/-- repr of a bool -/
def rReprB : List V → Hp → VK → Prop := fun xs H Q => ∃ b : Bool, xs = [.bl b] ∧ Q (.str (if b then "True" else "False")) H
theorem c_reprB : CallR X (.builtin "repr") rReprB := by
  intro pins s σ H xs us Q I r h
  obtain ⟨b, rfl, q⟩ := h
  obtain ⟨u, rfl, rx⟩ := vals1 r
  cases (show u = Value.bool b from rx)
  exact PySem.P.repr_of_bool ⟨.str (if b then "True" else "False"), H, I.tok _, ⟨_, rfl⟩, q⟩
def rNotN : R2 := fun x y H Q => y = V.non ∧ Q (V.bl (!decide (x = V.non))) H
theorem c_notN : OpR X (compareOp .IsNot) rNotN := op_notN
def rMax2 : List V → Hp → VK → Prop := fun xs H Q => ∃ i j : Int, xs = [.int i, .int j] ∧ Q (.int (if j > i then j else i)) H
theorem c_max2 (hc : X.calm = true) : CallR X (.builtin "max") rMax2 := call_max2 hc
def rMin2 : List V → Hp → VK → Prop := fun xs H Q => ∃ i j : Int, xs = [.int i, .int j] ∧ Q (.int (if j < i then j else i)) H
theorem c_min2 (hc : X.calm = true) : CallR X (.builtin "min") rMin2 := call_min2 hc
end
end L2
namespace AW
open PySem PySem.Spec PyProof.Rows L2
section
variable {c : Cw} {kn : Hp} {n : Nat} {σ : L2.St} {Q : V → Hp → Nat → Prop} {K : PySem.W.Frag} {E : XK} {EA : EAK} {B : List V → Hp → AK → AXK → Prop} {C D : Addr}
theorem r_ownD {op : Operator} {a b dx dy : Addr} {fs gs : List (Str × V)} (hm : MonoX B) (hE : ErrOk c EA E) (ha : kn a = some (.ins C dx fs)) (hb : kn b = some (.ins D dy gs))
    (h : B [.ref a, .ref b] kn (fun v k => Q v k n) (fun cls d k => EA cls d k n)) : W c (rOwnD K op C D (liftX B) E (.ref a) (.ref b)) kn n Q :=
  fun H g Q' q => ⟨a, dx, fs, b, dy, gs, rfl, rfl, g.ex _ _ ha, g.ex _ _ hb, sp_call hm hE h H g Q' q⟩
theorem r_eqUo {x y : V} (h : W c (rEqO K C (liftX B) false x y) kn n Q) : W c (rEqU K C (liftX B) x y) kn n Q := fun H g Q' q => .inl (h H g Q' q)
theorem r_eqUb {a dx : Addr} {fs : List (Str × V)} {x : V} (hm : MonoX B) (ha : kn a = some (.ins C dx fs)) (bv : BackV K kn C x)
    (h : B [.ref a, x] kn (fun v k => ∃ b, v = .bl b ∧ Q (.bl b) k n) (fun _ _ _ => False)) : W c (rEqU K C (liftX B) x (.ref a)) kn n Q :=
  fun H g Q' q => .inr ⟨a, dx, fs, rfl, g.ex _ _ ha, backV_ext g.ex bv, sp_call (EA := fun _ _ _ _ => False) (Q := fun v k n => ∃ b, v = .bl b ∧ Q (.bl b) k n) hm err_no h H g _ fun v kn1 n1 H1 ⟨b, e, hq⟩ g1 => ⟨b, e, q _ _ _ _ hq g1⟩⟩
theorem r_reprB {b : Bool} (q : Q (.str (if b then "True" else "False")) kn n) : W c (rReprB [.bl b]) kn n Q := fun H g _ k => ⟨b, rfl, k _ kn n H q g⟩
theorem r_notN {x : V} (q : Q (.bl (!decide (x = V.non))) kn n) : W c (rNotN x .non) kn n Q := fun H g _ k => ⟨rfl, k _ kn n H q g⟩
theorem r_max2 {i j : Int} (q : Q (.int (if j > i then j else i)) kn n) : W c (rMax2 [.int i, .int j]) kn n Q := fun H g _ k => ⟨i, j, rfl, k _ kn n H q g⟩
theorem r_min2 {i j : Int} (q : Q (.int (if j < i then j else i)) kn n) : W c (rMin2 [.int i, .int j]) kn n Q := fun H g _ k => ⟨i, j, rfl, k _ kn n H q g⟩
theorem w_prop {ta : TE} (hm : MonoX B) (h : W c (ta σ) kn n fun x kn1 n1 => ∃ a dx fs, x = .ref a ∧ kn1 a = some (.ins C dx fs) ∧ B [.ref a] kn1 (fun v k => Q v k n1) (fun _ _ _ => False)) : W c (tProp C (liftX B) [] E ta σ) kn n Q :=
  fun H g Q' q => h H g _ fun x kn1 n1 H1 ⟨a, dx, fs, e, ha, hb⟩ g1 => ⟨a, dx, fs, e, g1.ex _ _ ha, sp_call (EA := fun _ _ _ _ => False) hm err_no hb H1 g1 Q' q⟩
end
end AW

/-! bool(o) by an own __bool__; static methods; loops over lists or tuples; isinstance with a tuple; all. -/
namespace L2
open PySem PySem.Spec PyProof.Rows
theorem bool_new_own {prog : Program} {w : World} {x : Addr} : MeetsIn prog w (Builtin.«bool.__new__» ⟨[.type "bool", .ref x], []⟩) (fun A R s => wpAny (model prog w) A.in1 (truthy (.ref x)) (fun b s' => R (.ok (.ret (.bool b))) { s' with toks := s'.toks }) (fun e s' => R (.error e) s') s) := by
  intro A R s h
  obtain ⟨hp, g, d, tk, os⟩ := s
  have f1 := F.conv_sub_bool
  repeat (any_goals (first | assumption | (with_reducible refine wpAny_mono h (fun b s' hb => ?_) (fun _ _ z => z)) | wp_step))
  all_goals first | exact hb | exact ⟨_, rfl, hb⟩
section
variable {X : Cx} {CX : CXT} {k : Nat} {f C p : Addr} {fd : FuncData} {ps : List Str} {sp : Sp} {E : XK}
/-- bool(o) -/
def rBoolO (C : Addr) (sp : Sp) : List V → Hp → VK → Prop := fun xs H Q => ∃ a dx fs, xs = [.ref a] ∧ H a = some (.ins C dx fs) ∧ sp [.ref a] H (fun v H' => ∃ b, v = .bl b ∧ Q (.bl b) H') (fun _ _ _ => False)
theorem c_boolO (M : SpM X.K C f "__bool__") (F : FnOk X.prog X.w X.K X.mg X.base CX k f fd ps sp) (hr : Room (k + 2) X.A) (hb : Binds X.K fd ps []) (hx : Passes CX X (fun _ _ _ => False)) : CallR X (.type "bool") (rBoolO C sp) := by
  intro pins s σ H xs us Q I r h
  obtain ⟨a, dx, fs, rfl, ha, hq⟩ := h
  obtain ⟨u, rfl, rx⟩ := vals1 r
  cases (show u = Value.ref a from rx)
  obtain ⟨_, J, _⟩ := ins_get I.hok ha
  obtain ⟨_, J, _⟩ := J.look
  obtain ⟨_, hF⟩ := I.fr
  refine callType_newIn PySem.F.called_bool PySem.F.newNe_bool (PySem.F.typeCall_bool_1 _) (PySem.F.newCall_bool_1 _) (fun obj => PySem.F.args_object_init_2 obj _) PySem.F.entry_bool_new bool_new_own ?_
  refine PySem.W.truthy_K hF I.ok.mod.kin J M.hs M.hf (wpAny_mono (callA (A := X.A.in1.in1) (vs := [.ref a]) F hr.in1.in1 rfl hb hx I (.cons rfl .nil) hq) (fun z s' hz => ?_) fun _ _ z => z)
  obtain ⟨v', H', I', rv, b, e, q⟩ := hz
  subst e
  cases (show z = Value.bool b from rv)
  exact ⟨PySem.typeIs_bool _ _, .bl b, H', I', rfl, q⟩
end
end L2
namespace L2
open PySem PySem.Spec PyProof.Rows ClX
/-- C.m is a static method: its record at p, its def at f -/
structure SMet (K : PySem.W.Frag) (C : Addr) (mc : Value) (m : Str) (p f : Addr) : Prop where
  at_ : PySem.W.findCls K (.ref C) mc m = some (.get (.builtin "staticmethod.__get__") (.ref p) .none (.ref C))
  rc : ∃ rest, PySem.W.recIn K p "staticmethod" = some (.ref f :: rest)
  kp : PySem.W.keepIn K (.ref f) = true
section
variable {X : Cx} {CX : CXT} {k : Nat} {f C p : Addr} {mc : Value} {m : Str} {fd : FuncData} {ps : List Str} {sp : Sp} {E : XK} {o e : Expr} {es : List Expr} {pos apos : Pos} {ta : TE} {t : TA} {pl : Sem Bool} {pins : List (Addr × Obj)} {σ : St} {H : Hp} {s : Shared}
theorem getsm_ok {A : Around} {E : Value → Shared → Prop} {Q : Value × List Value → Shared → Prop} (I : Inv X pins σ H s) (r : CRead X.K C mc) (c : SMet X.K C mc m p f) (h : ∀ s', Inv X pins σ H s' → Q (.ref f, []) s') : wpAny (model X.prog X.w) A (getMethod (.ref C) m pl) Q E s := by
  obtain ⟨rest, hp⟩ := c.rc
  exact PySem.W.method_cls I.kIn r.ga (PySem.W.cls_bind I.kIn r.rd c.at_ (wpAny_call (PySem.W.sm_get (s := { s with toks := s.toks + 1 }) I.kIn hp (PySem.W.handed_on rfl (h _ (I.tok _))))))
def tSMeth (C : Addr) (sp : Sp) (E : XK) (ta : TE) (t : TA) : TE := fun σ H Q => ta σ H fun x H1 => x = .ref C ∧ t σ H1 fun vs H2 => sp vs H2 Q E
theorem pe_smeth (he : PE X o ta) (r : CRead X.K C mc) (c : SMet X.K C mc m p f) (F : FnR X.prog X.w X.K X.mg X.base CX k f sp) (hr : Room k X.A) (hx : Passes CX X E) (ha : PA X (e :: es) t)
    (hst : starEach (e :: es) X.env = (false, eval e X.env) :: starEach es X.env := by rfl) (hpl : (backTo pos (starEach es X.env)).any (·.1) = false := by rfl)
    (ht : eval (.Call (.Attribute o m apos) (e :: es) [] pos) X.env = (do
      let ov ← eval o X.env
      standAt apos.atName
      let (f, first) ← holding [ov] (getMethod ov m pl)
      callWith pos f first (backTo pos (starEach (e :: es) X.env)) (backToKw pos (keywordEach [] X.env))) := by rfl) :
    PE X (.Call (.Attribute o m apos) (e :: es) [] pos) (tSMeth C sp E ta t) := by
  refine ⟨fun pins s σ H Q I h => ?_⟩
  refine PySem.W.methodCall_KW (pl := pl) (thn (he.run pins s σ H _ I h) fun u s1 ⟨x, H1, I1, rx, ex, q⟩ => ?_) ht
  subst ex
  obtain rfl : u = Value.ref C := rx
  refine getsm_ok I1 r c fun s2 I2 => ?_
  exact PySem.W.callWith_K (h₀ := X.base) I2.ok.mod.kin c.kp (thn (ha.run pos pins s2 σ H1 _ I2 q) fun us s3 ⟨vs, H2, I3, rv, q2⟩ => ⟨I3.kIn, wpAny_call (run_fnR F hr hx I3 rv q2)⟩) hst hpl
theorem pe_smeth0 (he : PE X o ta) (r : CRead X.K C mc) (c : SMet X.K C mc m p f) (F : FnR X.prog X.w X.K X.mg X.base CX k f sp) (hr : Room k X.A) (hx : Passes CX X E)
    (ht : eval (.Call (.Attribute o m apos) [] [] pos) X.env = (do
      let ov ← eval o X.env
      standAt apos.atName
      let (f, first) ← holding [ov] (getMethod ov m pl)
      callWith pos f first (backTo pos (starEach [] X.env)) (backToKw pos (keywordEach [] X.env))) := by rfl) :
    PE X (.Call (.Attribute o m apos) [] [] pos) (tSMeth C sp E ta tNil) := by
  refine ⟨fun pins s σ H Q I h => ?_⟩
  refine PySem.W.methodCall_KW (pl := pl) (thn (he.run pins s σ H _ I h) fun u s1 ⟨x, H1, I1, rx, ex, q⟩ => ?_) ht
  subst ex
  obtain rfl : u = Value.ref C := rx
  refine getsm_ok I1 r c fun s2 I2 => ?_
  exact PySem.W.callWith_K0 I2.kIn c.kp (wpAny_call (run_fnR (us := []) F hr hx I2 .nil q))
/-- for x in e, e a list or a tuple -/
def iSeq (K : PySem.W.Frag) (te : TE) : TI := fun σ H R => iList K te σ H R ∨ iTup K te σ H R
theorem pi_seq {tg e : Expr} {te : TE} (he : PE X e te) : PI X tg e (iSeq X.K te) := by
  refine ⟨fun pins s σ H R I h => ?_⟩
  rcases h with h | h
  · exact (pi_list he).run pins s σ H R I h
  · exact (pi_tup he).run pins s σ H R I h
def rAllQ (K : PySem.W.Frag) : List V → Hp → VK → Prop := fun vs H Q => ∃ (a : Addr) (bs : List Bool), vs = [V.ref a] ∧ SqL K H a (bs.map V.bl) ∧ Q (.bl (bs.all id)) H
theorem c_allQ (hc : X.calm = true) : CallR X (.builtin "all") (rAllQ X.K) := cr_all hc
def rInQ (K : PySem.W.Frag) (neg : Bool) : R2 := fun x y H Q => ∃ p xs, y = .ref p ∧ (SqL K H p xs ∨ SqT K H p xs) ∧ flatV x = true ∧ xs.all flatV = true ∧ Q (.bl (if neg then !inV x xs else inV x xs)) H
theorem c_inQ : OpR X (compareOp .In) (rInQ X.K false) := op_in_seq
theorem c_notInQ : OpR X (compareOp .NotIn) (rInQ X.K true) := op_notIn_seq
end
end L2
namespace AW
open PySem PySem.Spec PyProof.Rows L2 ClX
section
variable {c : Cw} {kn : Hp} {n : Nat} {σ : L2.St} {Q : V → Hp → Nat → Prop} {K : PySem.W.Frag} {E : XK} {EA : EAK} {B : List V → Hp → AK → AXK → Prop} {C : Addr} {R : It → Hp → Nat → Prop}
theorem r_boolO {a dx : Addr} {fs : List (Str × V)} (hm : MonoX B) (ha : kn a = some (.ins C dx fs)) (h : B [.ref a] kn (fun v k => ∃ b, v = .bl b ∧ Q (.bl b) k n) (fun _ _ _ => False)) : W c (rBoolO C (liftX B) [.ref a]) kn n Q :=
  fun H g Q' q => ⟨a, dx, fs, rfl, g.ex _ _ ha, sp_call (EA := fun _ _ _ _ => False) (Q := fun v k n => ∃ b, v = .bl b ∧ Q (.bl b) k n) hm err_no h H g _ fun v kn1 n1 H1 ⟨b, e, hq⟩ g1 => ⟨b, e, q _ _ _ _ hq g1⟩⟩
theorem w_smeth {ta : TE} {t : TA} (hm : MonoX B) (hE : ErrOk c EA E) (h : W c (ta σ) kn n fun x kn1 n1 => x = .ref C ∧ W c (t σ) kn1 n1 fun vs kn2 n2 => B vs kn2 (fun v k => Q v k n2) (fun cls d k => EA cls d k n2)) : W c (tSMeth C (liftX B) E ta t σ) kn n Q :=
  fun H g Q' q => h H g _ fun x kn1 n1 H1 ⟨e, h1⟩ g1 => ⟨e, h1 H1 g1 _ fun vs kn2 n2 H2 h2 g2 => sp_call hm hE h2 H2 g2 Q' q⟩
/-- a static method with *rest -/
def spStar (m : Nat) (B : List V → Hp → AK → AXK → Prop) : Sp := fun vs H Q E => ∃ ws rest, vs = ws ++ rest ∧ ws.length = m ∧ rest.length ≤ sizeLine ∧ ∀ p, H p = Option.none → liftX B (ws ++ [V.ref p]) (upd H p (.tup rest)) Q E
theorem w_smethS {ta : TE} {t : TA} {m : Nat} (hm : MonoX B) (hE : ErrOk c EA E) (h : W c (ta σ) kn n fun x kn1 n1 => x = .ref C ∧ W c (t σ) kn1 n1 fun vs kn2 n2 => ∃ ws rest, vs = ws ++ rest ∧ ws.length = m ∧ rest.length ≤ 1000 ∧
    ∀ p, kn2 p = none → B (ws ++ [.ref p]) (upd kn2 p (.tup rest)) (fun v k => Q v k n2) (fun cls d k => EA cls d k n2)) : W c (tSMeth C (spStar m B) E ta t σ) kn n Q :=
  fun H g Q' q => h H g _ fun x kn1 n1 H1 ⟨e, h1⟩ g1 => ⟨e, h1 H1 g1 _ fun vs kn2 n2 H2 ⟨ws, rest, e1, e2, e3, h2⟩ g2 => ⟨ws, rest, e1, e2, Nat.le_trans e3 (by rw [sizeLine_eq]; decide), fun p hp => sp_call hm hE (h2 p (g2.free hp)) _ (g2.new hp) Q' q⟩⟩
theorem i_seqV {i : Nat} {a : Addr} {xs : List V} (hv : σ[i]? = some (some (.ref a))) (h : (kn a = some (.lst xs) ∧ R (Itl K a) kn n) ∨ (kn a = some (.tup xs) ∧ R (Itt K a) kn n)) : WI c (iSeq K (tVar i) σ) kn n R := by
  intro H g R' q
  rcases h with ⟨ha, h⟩ | ⟨ha, h⟩
  · exact .inl (i_list (w_var hv ⟨a, xs, rfl, ha, h⟩) H g R' q)
  · exact .inr (i_tup (w_var hv ⟨a, xs, rfl, ha, h⟩) H g R' q)
theorem r_isiT {x : V} {tp : Addr} {cs : List V} {t : Value} {us : List Value} {b : Bool} (h : kn tp = some (.tup cs)) (p : Paired ClsV cs us) (ty : TyX K kn x t) (e : PySem.W.kitAny K t us = some b) (q : Q (.bl b) kn n) : W c (rIsiT K [x, .ref tp]) kn n Q :=
  fun H g _ f => ⟨x, tp, cs, t, us, b, rfl, g.ex _ _ h, p, tyx_ext g.ex ty, e, f _ kn n H q g⟩
theorem r_allQ {a : Addr} {bs : List Bool} (h : kn a = some (.lst (bs.map V.bl))) (q : Q (.bl (bs.all id)) kn n) : W c (rAllQ K [.ref a]) kn n Q := fun H g _ k => ⟨a, bs, rfl, sql (g.ex _ _ h), k _ kn n H q g⟩
theorem r_inQ {x : V} {p : Addr} {xs : List V} {neg : Bool} (h : kn p = some (.lst xs) ∨ kn p = some (.tup xs)) (h1 : flatV x = true) (h2 : xs.all flatV = true) (q : Q (.bl (if neg then !inV x xs else inV x xs)) kn n) : W c (rInQ K neg x (.ref p)) kn n Q :=
  fun H g _ k => ⟨p, xs, rfl, h.imp (fun z => sql (g.ex _ _ z)) (fun z => sqt (g.ex _ _ z)), h1, h2, k _ kn n H q g⟩
end
end AW

/-! raise .. from None in a handler; an error with two fields; a classmethod. -/
namespace L2
open PySem PySem.Spec PyProof.Rows
theorem Fun.okH {P : Program} {w : World} {K : PySem.W.Frag} {mg : Str → Option Value} {base : Heap} {x qual : Str} {st : Stmt} {f : Addr} {fd : FuncData} {N ps : List Str} {k : Nat} {sp : Sp} (F : Fun K x qual st f fd) (S : FnScope N ps (defScope st)) (len : ∀ vs H Q E, sp vs H Q E → vs.length = ps.length)
    (hbody : ∀ (cdv : Value) (A : Around) (outer : List Env) (s : Shared) (H : Hp) (vs : List V) (Q : VK) (E : XK) (p : Addr × Obj), L2H.RoomH k (A.deeper (envOfC qual (defScope st) s.heap.objs.size f cdv)) → sp vs H Q E →
      ∃ t, PSs (L2H.cxH CX0 P w K mg base N qual (defScope st) f cdv A outer s H E p) (defBody st) t ∧ t { nx := fun _ H' => Q .non H', rt := Q } (start N vs) H) : L2H.FnH P w K mg base CX0 (k + 1) f fd ps sp := by
  obtain ⟨oc, od, kV, doc, pm, an, cdv, ct, osl, rfl, lk, hcd⟩ := F.ex
  exact L2H.fn_ofH lk hcd S len fun A outer s H vs Q E p hp hr hsp => hbody cdv A outer s H vs Q E p hr hsp
/-- an error class whose __init__ sets two fields -/
def spX2 (K : PySem.W.Frag) (f g : Str) : Sp := fun vs H Q _ => ∃ (a C : Addr) (y z : V), vs = [.ref a, y, z] ∧ OexC K C ∧ PySem.W.findIn K (.ref C) f = some none ∧ PySem.W.findIn K (.ref C) g = some none ∧ H a = some (exo a C none) ∧
  ∀ dx, H dx = none → dx ≠ a → Q .non (upd (upd (upd H dx (exd dx [(f, y)])) a (exo a C (some dx))) dx (exd dx [(g, z), (f, y)]))
theorem x2_end {H : Hp} {a d : Addr} {o1 o2 o3 o4 o5 : HO} (ha : H a = none) (hd : d ≠ a) : upd (del (upd (upd (upd (upd H a o1) d o2) a o3) d o5) a) d o4 = upd H d o4 := by
  funext x
  by_cases h1 : x = d
  · rw [h1, upd_same, upd_same]
  · rw [upd_ne h1, upd_ne h1]
    by_cases h2 : x = a
    · rw [h2, del_same, ha]
    · rw [del_ne h2, upd_ne h1, upd_ne h2, upd_ne h1, upd_ne h2]
end L2
namespace AW
open PySem PySem.Spec PyProof.Rows L2
section
variable {c : Cw} {kn : Hp} {n : Nat} {σ : L2.St} {K : PySem.W.Frag} {D : AE} {E : XK} {EA : EAK}
theorem s_raise2 {C : Addr} {f g : Str} {ta : TA} (oc : OexC K C) (hf : PySem.W.findIn K (.ref C) f = some none) (hg : PySem.W.findIn K (.ref C) g = some none) (hE : ErrOk c EA E)
    (h : W c (ta σ) kn n fun vs kn1 n1 => ∃ y z, vs = [y, z] ∧ ∀ d, kn1 d = none → EA (.ref C) (some d) (upd kn1 d (.xd [(g, z), (f, y)])) n1) :
    WS c (fun _ σ H => tMkO C (spX2 K f g) [] ta σ H fun cls d H' => E cls d H') D σ kn n :=
  fun H g0 D' fit => h H g0 _ fun vs kn1 n1 H1 ⟨y, z, e, h1⟩ g1 => by
    subst e
    refine ⟨Nat.le_add_left 2 998, fun a ha => ⟨a, C, y, z, rfl, oc, hf, hg, upd_same, fun d hd hda => ⟨rfl, d, [(g, z), (f, y)], ?_, upd_same, ?_, ?_⟩⟩⟩
    · rw [upd_ne (Ne.symm hda), upd_same]
    · rw [upd_ne hda] at hd
      exact hd
    · rw [upd_ne hda] at hd
      rw [x2_end ha hda]
      exact hE _ _ _ _ _ (h1 d (g1.free hd)) (g1.new hd)
/-- try .. except C: suite (that ends in another error) -/
theorem s_tryO {cv : Value} {tb : WX → TS} {ts : Addr → Value → Option Addr → TS} {Wout : WX}
    (h : ∀ H (D' : Ends), Good c kn n H → Fits c D D' → tb (wOnly K cv ts Wout D') D' σ H) : WS c (fun D' σ H => tb (wOnly K cv ts Wout D') D' σ H) D σ kn n :=
  fun H g D' fit => h H D' g fit
end
end AW
namespace L2
open PySem PySem.Spec PyProof.Rows ClX
section
variable {X : Cx} {CX : CXT} {k : Nat} {f C p : Addr} {mc : Value} {m : Str} {fd : FuncData} {ps : List Str} {B : List V → Hp → AW.AK → AW.AXK → Prop} {E : XK}
end
end L2

/-! Own errors made: as values, and in a raise whose error may be caught and followed by another. -/
namespace L2
open PySem PySem.Spec PyProof.Rows
theorem Fun.okXN {P : Program} {w : World} {K : PySem.W.Frag} {mg : Str → Option Value} {base : Heap} {x qual : Str} {st : Stmt} {f : Addr} {fd : FuncData} {N ps : List Str} {k : Nat} {sp : Sp} (F : Fun K x qual st f fd) (S : FnScope N ps (defScope st)) (len : ∀ vs H Q E, sp vs H Q E → vs.length = ps.length)
    (hbody : ∀ (cdv : Value) (A : Around) (outer : List Env) (s : Shared) (H : Hp) (vs : List V) (Q : VK) (E : XK), Room k (A.deeper (envOfC qual (defScope st) s.heap.objs.size f cdv)) → sp vs H Q E →
      ∃ t, PSs (cxOf (L2N.CX P w) P w K mg base N qual (defScope st) f cdv A outer s H E) (defBody st) t ∧ t { nx := fun _ H' => Q .non H', rt := Q } (start N vs) H) : FnOk P w K mg base (L2N.CX P w) (k + 1) f fd ps sp := by
  obtain ⟨oc, od, kV, doc, pm, an, cdv, ct, osl, rfl, lk, hcd⟩ := F.ex
  exact ⟨len, fun A outer s H args us vs Q E hr e0 hb r hsp => LamX.run_ofS lk hcd S hr e0 hb r (len _ _ _ _ hsp) fun hr' => hbody cdv A outer s H vs Q E hr' hsp⟩
theorem passLN {X : Cx} : Passes (L2N.CX X.prog X.w) X E0 := fun pins σ H s e s' _ h => by
  obtain ⟨a, B, H', cls, d, _, _, _, _, _, _, _, z⟩ := h
  exact z.elim
section
variable {X : Cx} {CX : CXT} {k : Nat} {C fI : Addr} {fd : FuncData} {ps : List Str} {sp : Sp} {ds : List Value} {dvs : List V} {pins : List (Addr × Obj)} {σ : St} {H : Hp} {s : Shared} {us : List Value} {vs : List V}
theorem oex_core (T : OexC X.K C) (iC : PySem.W.findIn X.K (.ref C) "__init__" = some (some (.ref fI))) (tI : PySem.W.typeIn X.K (.ref fI) = some (.type "function")) (F : FnOk X.prog X.w X.K X.mg X.base CX k fI fd ps sp) (hr : Room (k + 1) X.A) (hb : Binds X.K fd ps ds) (hd : Vals dvs ds)
    (hx : Passes CX X (fun _ _ _ => False)) (I : Inv X pins σ H s) (rv : Vals vs us) (hl : vs.length ≤ 1000) {QQ : Addr → Hp → Prop} {R : Value → Shared → Prop}
    (hsp : ∀ a, H a = none → sp (.ref a :: (vs ++ dvs)) (upd H a (exo a C none)) (fun v H2 => v = .non ∧ QQ a H2) (fun _ _ _ => False))
    (fin : ∀ (a : Addr) (s2 s' : Shared) (H2 : Hp), H a = none → s.heap.objs.size ≤ a → (∀ b o, s.heap.get? b = some o → s2.heap.get? b = some o) → Inv X pins σ (upd H a (exo a C none)) s2 → s2.os = s.os →
      s'.os = s2.os → AllBare s'.gens → Un (frs X.stack) [] (upd H a (exo a C none)) H2 s2.heap s'.heap → HOk X.prog X.w H2 s'.heap → QQ a H2 → R (.ref a) s') :
    wpAny (model X.prog X.w) X.A (call (.ref C) us) R X.xe s := by
  obtain ⟨hp, g, d, t, os⟩ := s
  obtain ⟨nm, q, N, bs, bm, sn, sub, ab, col, dd, k0, k1, k2, k3, k5, lk, hbm⟩ := T.cls
  have hlu : us.length ≤ 1000 := by rw [← rv.length]; exact hl
  have keeps : ∀ b o, hp.get? b = some o → ((hp.push (PySem.W.kdv_tup us)).push (HandSPX.excO C hp.objs.size)).get? b = some o := fun b o e => Heap.get?_push_of_some _ (Heap.get?_push_of_some _ e)
  have hn : H (hp.objs.size + 1) = none := I.hok.fresh (Nat.le_succ _)
  have hsz : (hp.push (PySem.W.kdv_tup us)).objs.size = hp.objs.size + 1 := by simp [Heap.push]
  have I2 : Inv X pins σ (upd H (hp.objs.size + 1) (exo (hp.objs.size + 1) C none)) ⟨(hp.push (PySem.W.kdv_tup us)).push (HandSPX.excO C hp.objs.size), g, d, t, os⟩ :=
    I.laid (t' := t) keeps (Nat.le_succ _) (exo_ok (t1 := hp.objs.size) (by rw [← hsz]; exact Heap.get?_push_size _ rfl))
  refine wpAny_call ?_
  refine HandSPX.call_own PySem.F.excBase_ValueError (fun Y => HandSPX.refsVE_contains Y _ hbm) (I.kIn _ _ lk) (PySem.W.looks_findIn I.kIn iC) (fun self => PySem.W.bind_fn I.kIn self tI) (Nat.le_trans hlu (by rw [sizeLine_eq]; decide)) ?_
  have rr : Vals (V.ref (hp.objs.size + 1) :: (vs ++ dvs)) (Value.ref (hp.objs.size + 1) :: us ++ ds) := .cons rfl (rv.append hd)
  have hlen : (Value.ref (hp.objs.size + 1) :: us ++ ds).length = ps.length := by rw [← rr.length]; exact F.len _ _ _ _ (hsp _ hn)
  have e2 := I2.env0
  refine codeAny_mono (F.run (X.A.under (.builtin "type.__call__" { pos := .ref C :: us })) X.stack _ _ ⟨.ref (hp.objs.size + 1) :: us, []⟩ (.ref (hp.objs.size + 1) :: us ++ ds) (.ref (hp.objs.size + 1) :: (vs ++ dvs)) _ _ (hr.make C us []) ⟨e2.frames, e2.mod, e2.bs, e2.bsz, e2.funs, e2.frf, e2.hok, e2.bare⟩ (hb _ (.ref (hp.objs.size + 1) :: us) I2.kIn hlen) rr (hsp _ hn)) fun r s' hq => ?_
  cases r with
  | error e => exact hx pins σ _ _ e s' I2 hq
  | ok fl =>
    cases fl with
    | ret u =>
      obtain ⟨v, H2, os', bare, un, hok, rel, ev, q⟩ := hq
      subst ev
      exact ⟨rel, fin _ _ _ _ hn (Nat.le_succ _) keeps I2 rfl os' bare un hok q⟩
    | next => exact False.elim hq
    | brk => exact False.elim hq
    | cont => exact False.elim hq
variable {x : Str} {e : Expr} {es : List Expr} {ta : TA} {p pos : Pos}
/-- an own error made, as a value -/
def tMkV (C : Addr) (sp : Sp) (dvs : List V) (ta : TA) : TE := fun σ H Q => ta σ H fun vs H1 => vs.length ≤ 1000 ∧ ∀ a, H1 a = none → sp (.ref a :: (vs ++ dvs)) (upd H1 a (exo a C none)) (fun v H2 => v = .non ∧ Q (.ref a) H2) (fun _ _ _ => False)
theorem pe_oexV (T : OexC X.K C) (iC : PySem.W.findIn X.K (.ref C) "__init__" = some (some (.ref fI))) (tI : PySem.W.typeIn X.K (.ref fI) = some (.type "function")) (F : FnOk X.prog X.w X.K X.mg X.base CX k fI fd ps sp) (hr : Room (k + 1) X.A) (hb : Binds X.K fd ps ds) (hd : Vals dvs ds)
    (hx : Passes CX X (fun _ _ _ => False)) (hg : Gl X x) (hm : X.mg x = some (.ref C)) (ha : PA X (e :: es) ta) (hdb : (x == ("__debug__" : Str)) = false := by decide) (he : starEach (e :: es) X.env = (false, eval e X.env) :: starEach es X.env := by rfl) (hpl : (backTo pos (starEach es X.env)).any (·.1) = false := by rfl) :
    PE X (.Call (.Name x p) (e :: es) [] pos) (tMkV C sp dvs ta) := by
  refine ⟨fun pins s σ H Q I h => wpAny_Call_Name_kw (ld_glob I hg hm ?_ hdb)⟩
  refine PySem.W.callWith_K (h₀ := X.base) I.ok.mod.kin T.kC (thn (ha.run pos pins s σ H _ I h) fun us s1 ⟨vs, H1, I1, r, hl, q⟩ => ⟨I1.kIn, ?_⟩) he hpl
  refine oex_core T iC tI F hr hb hd hx I1 r hl (QQ := fun a H2 => Q (.ref a) H2) q fun a s2 s' H2 hn hs kp I2 os2 os' bare un hok hq => ?_
  exact I2.after ⟨.ref a, H2, os', bare, un, hok, rfl, hq⟩
theorem pmkN_oex (T : OexC X.K C) (iC : PySem.W.findIn X.K (.ref C) "__init__" = some (some (.ref fI))) (tI : PySem.W.typeIn X.K (.ref fI) = some (.type "function")) (F : FnOk X.prog X.w X.K X.mg X.base CX k fI fd ps sp) (hr : Room (k + 1) X.A) (hb : Binds X.K fd ps ds) (hd : Vals dvs ds)
    (hx : Passes CX X (fun _ _ _ => False)) (hg : Gl X x) (hm : X.mg x = some (.ref C)) (ha : PA X (e :: es) ta) (hdb : (x == ("__debug__" : Str)) = false := by decide) (he : starEach (e :: es) X.env = (false, eval e X.env) :: starEach es X.env := by rfl) (hpl : (backTo pos (starEach es X.env)).any (·.1) = false := by rfl) :
    L2N.PMk X (.Call (.Name x p) (e :: es) [] pos) (tMkO C sp dvs ta) := by
  intro pins s σ H Q I h
  refine wpAny_Call_Name_kw (ld_glob I hg hm ?_ hdb)
  refine PySem.W.callWith_K (h₀ := X.base) I.ok.mod.kin T.kC (thn (ha.run pos pins s σ H _ I h) fun us s1 ⟨vs, H1, I1, r, hl, q⟩ => ⟨I1.kIn, ?_⟩) he hpl
  refine oex_core T iC tI F hr hb hd hx I1 r hl (QQ := fun a H2 => ∃ d fs, H2 a = some (exo a C (some d)) ∧ H2 d = some (exd d fs) ∧ H1 d = none ∧ Q (.ref C) (some d) (upd (del H2 a) d (.xd fs))) q fun a s2 s' H2 hn hs kp I2 os2 os' bare un hok hq => ?_
  obtain ⟨d, fs, h1, h2, h3, hq⟩ := hq
  obtain ⟨hp, g1, d1, t1, os1⟩ := s1
  obtain ⟨hp2, g2, d2, t2, osx⟩ := s2
  obtain ⟨h', g', d', t', os3⟩ := s'
  obtain ⟨t0, G, IG, kG, nG, gG, nH⟩ := mk_end0 I1 hs kp un hok (os'.trans os2) bare h1 h2 h3
  refine ⟨a, _, _, ⟨G, g', d', t', os3⟩, _, _, _, rfl, IG, kG, nG, gG, ⟨rfl, rfl, fun vs hv => ?_⟩, rfl, rfl, nH, rfl, bare, ?_, hq⟩
  · cases hv
    rfl
  · exact raises_own T.exC T.tyC
end
end L2
namespace AW
open L2
theorem takesN_len {X : Cx} {W : WX} {m : Nat} (tk : L2N.Takes X W) (h : X.N.length = m := by rfl) : L2N.Takes X (fun cls d σ H => σ.length = m → W cls d σ H) :=
  fun u s' ⟨a, B, sI, pins, σ, H, cls, d, e, I, nb, up, sky, na, os, ag, w⟩ => tk u s' ⟨a, B, sI, pins, σ, H, cls, d, e, I, nb, up, sky, na, os, ag, w (I.len.trans h)⟩
end AW

/-! Texts of integers: what is read back is what was written. -/
namespace L2
namespace Tx1
open PySem PySem.NumText TL
/-- the text of an integer -/
abbrev dS (i : Int) : Str := Str.ofString (toString i)
theorem dS_nat (n : Nat) : tl (dS n) = numL n := tl_num n
theorem dS_neg {n : Nat} (h : 0 < n) : tl (dS (-(n : Int))) = 45 :: numL n := by
  obtain ⟨m, rfl⟩ : ∃ m, n = m + 1 := ⟨n - 1, by omega⟩
  have e : (toString (-((m + 1 : Nat) : Int))) = "-" ++ toString (((m + 1 : Nat) : Int)) := by
    have : (-((m + 1 : Nat) : Int)) = Int.negSucc m := by omega
    rw [this]
    rfl
  show tl (Str.ofString (toString (-((m + 1 : Nat) : Int)))) = _
  rw [e, tl_ofString, String.toList_append, List.map_append, ← tl_ofString (toString _)]
  rw [tl_num]
  rfl
theorem dS_cases (i : Int) : (∃ n : Nat, i = n ∧ tl (dS i) = numL n) ∨ (∃ n : Nat, 0 < n ∧ i = -(n : Int) ∧ tl (dS i) = 45 :: numL n) := by
  rcases Int.lt_or_le i 0 with h | h
  · refine .inr ⟨i.natAbs, by omega, by omega, ?_⟩
    have e : i = -((i.natAbs : Nat) : Int) := by omega
    have := dS_neg (n := i.natAbs) (by omega)
    rw [← e] at this
    exact this
  · refine .inl ⟨i.natAbs, by omega, ?_⟩
    have e : i = ((i.natAbs : Nat) : Int) := by omega
    have := dS_nat i.natAbs
    rw [← e] at this
    exact this
theorem numL_no45 (n : Nat) : ¬ 45 ∈ numL n := numL_free (.inl (by decide))
theorem dS_free {c : Nat} (h : c ≠ 45) (h2 : c < 48 ∨ 57 < c) (i : Int) : ¬ c ∈ tl (dS i) := by
  rcases dS_cases i with ⟨n, _, e⟩ | ⟨n, _, _, e⟩ <;> rw [e]
  · exact numL_free h2
  · intro hm
    rcases List.mem_cons.1 hm with hm | hm
    · exact h hm
    · exact numL_free h2 hm
theorem ext_str {a b : Str} (h : tl a = tl b) : a = b := by
  have := congrArg (fun l => ({ cps := l.toArray } : Str)) h
  exact (mk_tl a).symm.trans (this.trans (mk_tl b))
theorem dS_inj {i j : Int} (h : dS i = dS j) : i = j := by
  have h := congrArg tl h
  rcases dS_cases i with ⟨n, rfl, e⟩ | ⟨n, hn, rfl, e⟩ <;> rcases dS_cases j with ⟨m, rfl, e2⟩ | ⟨m, hm, rfl, e2⟩ <;> rw [e, e2] at h
  · rw [numL_inj h]
  · exact absurd (h ▸ List.mem_cons_self) (numL_no45 n)
  · exact absurd (h.symm ▸ List.mem_cons_self) (numL_no45 m)
  · rw [numL_inj (List.cons.inj h).2]
/-- the figures of a text without leading zeros -/
def canon (l : List Nat) : List Nat := match l.dropWhile (· == 48) with
  | [] => [48]
  | c :: r => c :: r
theorem toNat_ofNat {c : Nat} (h : 48 ≤ c ∧ c ≤ 57) : (Char.ofNat c).toNat = c := by
  obtain ⟨h1, h2⟩ := h
  have : ∀ c : Nat, c < 58 → (Char.ofNat c).toNat = c := by decide
  exact this c (by omega)
theorem mem_dropWhile {p : Nat → Bool} {c : Nat} : ∀ {l : List Nat}, c ∈ l.dropWhile p → c ∈ l
  | [], h => h
  | a :: l, h => by
    rw [List.dropWhile_cons] at h
    split at h
    · exact List.mem_cons_of_mem _ (mem_dropWhile h)
    · exact h
theorem numL_val_canon {l : List Nat} (h : AllDigits l) : numL (digitsVal l) = canon l := by
  unfold numL canon
  rw [toDigits_all l h]
  have hd : ∀ c ∈ l.dropWhile (· == 48), 48 ≤ c ∧ c ≤ 57 := fun c hc => h c (mem_dropWhile hc)
  revert hd
  generalize l.dropWhile (· == 48) = d
  intro hd
  cases d with
  | nil => rfl
  | cons c r =>
    show List.map Char.toNat (List.map Char.ofNat (c :: r)) = c :: r
    rw [List.map_map]
    exact (List.map_congr_left (fun a ha => toNat_ofNat (hd a ha))).trans (List.map_id _)
theorem len_dropWhile_le {p : Nat → Bool} : ∀ l : List Nat, (l.dropWhile p).length ≤ l.length
  | [] => Nat.le_refl _
  | a :: l => by
    rw [List.dropWhile_cons]
    split
    · have := len_dropWhile_le (p := p) l
      simp only [List.length_cons]
      omega
    · exact Nat.le_refl _
theorem canon_eq {l : List Nat} (hne : l ≠ []) : canon l = l ↔ (l = [48] ∨ l.head? ≠ some 48) := by
  cases l with
  | nil => exact absurd rfl hne
  | cons a r =>
    by_cases ha : a = 48
    · subst ha
      constructor
      · intro h
        left
        unfold canon at h
        rw [List.dropWhile_cons] at h
        simp only [BEq.rfl, if_true] at h
        have hl := len_dropWhile_le (p := (· == 48)) r
        revert h
        generalize hd : r.dropWhile (· == 48) = d
        rw [hd] at hl
        intro h
        cases d with
        | nil => exact h.symm
        | cons c t =>
          exfalso
          have := congrArg List.length h
          simp only [List.length_cons] at this hl
          omega
      · rintro (h | h)
        · rw [h]; rfl
        · exact absurd rfl h
    · constructor
      · intro _
        right
        simpa using ha
      · intro _
        unfold canon
        rw [List.dropWhile_cons]
        have : (a == 48) = false := by simpa using ha
        simp [this]
theorem val_lt : ∀ (k : Nat) (l : List Nat), AllDigits l → l.length ≤ k → digitsVal l < 10 ^ k := by
  intro k
  induction k with
  | zero =>
    intro l h hl
    have : l = [] := List.length_eq_zero_iff.1 (by omega)
    subst this
    decide
  | succ k ih =>
    intro l h hl
    rcases List.eq_nil_or_concat l with rfl | ⟨r, c, rfl⟩
    · show 0 < _
      exact Nat.pos_of_ne_zero (by simp)
    · rw [List.concat_eq_append] at h hl ⊢
      have hr := ih r (fun x hx => h x (List.mem_append_left _ hx)) (by simp at hl; omega)
      have hc := h c (List.mem_append_right _ (List.mem_singleton.2 rfl))
      rw [digitsVal_snoc]
      have : 10 ^ (k + 1) = 10 ^ k * 10 := rfl
      omega
end Tx1
end L2

namespace L2
namespace Tx1
open PySem PySem.NumText TL SX
abbrev minusS : Str := S [45]
abbrev plusS : Str := S [43]
theorem subAt_hd (w : Str) (c : Nat) : (decide (0 + (S [c]).length ≤ w.length) && Builtin.Str.subAt w (S [c]) 0) = decide ((tl w).head? = some c) := by
  unfold Builtin.Str.subAt
  have e1 : (S [c]).length = 1 := rfl
  rw [e1]
  obtain ⟨⟨l⟩⟩ := w
  cases l with
  | nil => simp [tl, Str.length]
  | cons a r =>
    simp only [Str.length, tl]
    by_cases h : a = c
    · subst h
      simp [S]
    · simp [S, h]
theorem rp_tl (w : Str) : tl (Txt.removeprefix w minusS) = if (tl w).head? = some 45 then (tl w).drop 1 else tl w := by
  rw [StrLaws.removeprefix_eq, subAt_hd]
  by_cases h : (tl w).head? = some 45
  · simp only [h, decide_true, if_true]
    show List.take _ _ = _
    have e1 : minusS.length = 1 := rfl
    rw [e1]
    apply List.take_of_length_le
    simp [Str.length]
  · simp [h]
theorem dec128 : ∀ c : Nat, c < 128 → Unicode.isDecimal c = (decide (48 ≤ c) && decide (c ≤ 57)) := by decide +kernel
theorem decimal_iff {d : Str} (ha : ∀ c ∈ tl d, c < 128) : Txt.isdecimal d = true ↔ tl d ≠ [] ∧ AllDigits (tl d) := by
  unfold Txt.isdecimal
  obtain ⟨⟨l⟩⟩ := d
  simp only [tl, Str.length] at *
  constructor
  · intro h
    simp at h
    refine ⟨by intro e; subst e; simp at h, fun c hc => ?_⟩
    have := h.2 c hc
    rw [dec128 c (ha c hc)] at this
    simpa using this
  · rintro ⟨h1, h2⟩
    simp
    refine ⟨by cases l with | nil => exact absurd rfl h1 | cons => simp, fun c hc => ?_⟩
    rw [dec128 c (ha c hc)]
    simpa using h2 c hc
/-- the text w is that of the integer n, of twelve figures at most -/
def isN (w : Str) (n : Int) : Prop := w = dS n ∧ n.natAbs < 10 ^ 12
theorem isN_uni {w : Str} {n m : Int} (h : isN w n) (g : isN w m) : n = m := dS_inj (h.1.symm.trans g.1)
theorem ascii_dS (i : Int) : ∀ c ∈ tl (dS i), c < 128 := by
  intro c hc
  rcases dS_cases i with ⟨n, _, e⟩ | ⟨n, _, _, e⟩ <;> rw [e] at hc
  · have := numL_digits n c hc
    omega
  · rcases List.mem_cons.1 hc with rfl | hc
    · decide
    · have := numL_digits n c hc
      omega
theorem head_numL (n : Nat) : (numL n).head? ≠ some 45 := by
  intro h
  exact numL_no45 n (List.mem_of_head? h)
theorem rp_dS {n : Int} : tl (Txt.removeprefix (dS n) minusS) = numL n.natAbs := by
  rw [rp_tl]
  rcases dS_cases n with ⟨m, rfl, e⟩ | ⟨m, hm, rfl, e⟩ <;> rw [e]
  · rw [if_neg (head_numL m)]
    rfl
  · rw [if_pos (show (45 :: numL m).head? = some 45 from rfl)]
    show numL m = _
    congr 1
    omega
theorem rn_no {w : Str} (h : 12 < (Txt.removeprefix w minusS).length ∨ Txt.isdecimal (Txt.removeprefix w minusS) = false) (n : Int) : ¬ isN w n := by
  rintro ⟨rfl, hn⟩
  have hl : (numL n.natAbs).length ≤ 12 := numL_len (by decide) hn
  have e := @rp_dS n
  rcases h with h | h
  · have : (Txt.removeprefix (dS n) minusS).length = (tl (Txt.removeprefix (dS n) minusS)).length := (len_tl _).symm ▸ rfl
    rw [this, e] at h
    omega
  · have : Txt.isdecimal (Txt.removeprefix (dS n) minusS) = true := (decimal_iff (by rw [e]; intro c hc; have := numL_digits _ c hc; omega)).2 (by rw [e]; exact ⟨numL_ne _, numL_digits _⟩)
    rw [h] at this
    exact absurd this (by decide)
theorem lenT (w : Str) : w.length = (tl w).length := by simp [Str.length, tl]
theorem int_dS {n : Int} (hn : n.natAbs < 10 ^ 12) : intText? (dS n) = some n := by
  have hl : (numL n.natAbs).length ≤ 12 := numL_len (by decide) hn
  rcases dS_cases n with ⟨m, rfl, e⟩ | ⟨m, hm, rfl, e⟩
  · exact int_num (by have : (m : Int).natAbs = m := by omega
                      rw [this] at hl; omega)
  · have : (-(m : Int)).natAbs = m := by omega
    rw [this] at hl
    rw [intText_neg e (numL_digits m) (numL_ne m) (by rw [lenT, e]; simp only [List.length_cons]; omega), numL_val]
theorem rn_yes {w : Str} (ha : ∀ c ∈ tl w, c < 128) (hl : (Txt.removeprefix w minusS).length ≤ 12) (hd : Txt.isdecimal (Txt.removeprefix w minusS) = true) : ∃ n, intText? w = some n ∧ n.natAbs < 10 ^ 12 ∧ w.length ≤ 13 ∧ (∀ m, isN w m → m = n) := by
  have e := rp_tl w
  rw [lenT] at hl
  have hd := (decimal_iff (by
    rw [e]
    split
    · exact fun c hc => ha c (List.mem_of_mem_drop hc)
    · exact ha)).1 hd
  revert hl hd
  rw [e]
  by_cases h : (tl w).head? = some 45
  · rw [if_pos h]
    obtain ⟨r, hr⟩ : ∃ r, tl w = 45 :: r := by
      cases hw : tl w with
      | nil => rw [hw] at h; exact absurd h (by decide)
      | cons a r => rw [hw] at h; exact ⟨r, by rw [Option.some.inj h]⟩
    rw [hr]
    simp only [List.drop_succ_cons, List.drop_zero]
    rintro hl ⟨h1, h2⟩
    have hi := intText_neg (x := w) hr h2 h1 (by rw [lenT, hr]; simp only [List.length_cons]; omega)
    refine ⟨_, hi, ?_, by rw [lenT, hr]; simp only [List.length_cons]; omega, fun m hm => ?_⟩
    · have := val_lt 12 r h2 hl
      omega
    · rw [hm.1, int_dS hm.2] at hi
      exact Option.some.inj hi
  · rw [if_neg h]
    rintro hl ⟨h1, h2⟩
    have hi : intText? w = some ((digitsVal (tl w) : Nat) : Int) := intText_digits (x := w) h2 h1 (by rw [lenT]; omega)
    refine ⟨_, hi, ?_, by rw [lenT]; omega, fun m hm => ?_⟩
    · have := val_lt 12 _ h2 hl
      omega
    · have h3 := int_dS hm.2
      rw [← hm.1, hi] at h3
      exact (Option.some.inj h3).symm
/-- the text w is that of a number from 0 on of k figures at most -/
def isC (k : Nat) (w : Str) : Prop := ∃ n : Nat, n < 10 ^ k ∧ w = dS n
theorem cnt_yes {k : Nat} {w : Str} (hd : AllDigits (tl w)) (hne : tl w ≠ []) (hl : w.length ≤ k) (h : tl w = [48] ∨ (tl w).head? ≠ some 48) : isC k w := by
  refine ⟨digitsVal (tl w), val_lt k _ hd (by rw [← lenT]; exact hl), ext_str ?_⟩
  rw [dS_nat, numL_val_canon hd]
  exact ((canon_eq hne).2 h).symm
theorem cnt_no {k : Nat} {w : Str} (hk : 0 < k) (h : isC k w) : AllDigits (tl w) ∧ tl w ≠ [] ∧ w.length ≤ k ∧ (tl w = [48] ∨ (tl w).head? ≠ some 48) := by
  obtain ⟨n, hn, rfl⟩ := h
  rw [lenT, dS_nat]
  refine ⟨numL_digits n, numL_ne n, numL_len hk hn, (canon_eq (numL_ne n)).1 ?_⟩
  rw [← numL_val_canon (numL_digits n), numL_val]
/-- the law's bare text of head -/
def bareOf (h : Str) : Str := if (tl h).head? = some 45 then S ((tl h).drop 1) else h
theorem isN_bare {h : Str} : (isC 12 (bareOf h) ∧ h ≠ S [45, 48]) ↔ ∃ f, isN h f := by
  unfold bareOf
  constructor
  · rintro ⟨⟨n, hn, e⟩, h0⟩
    by_cases hh : (tl h).head? = some 45
    · rw [if_pos hh] at e
      obtain ⟨r, hr⟩ : ∃ r, tl h = 45 :: r := by
        cases hw : tl h with
        | nil => rw [hw] at hh; exact absurd hh (by decide)
        | cons a r => rw [hw] at hh; exact ⟨r, by rw [Option.some.inj hh]⟩
      rw [hr] at e
      have e2 : r = numL n := by
        have := congrArg tl e
        rw [dS_nat] at this
        exact this
      have n0 : 0 < n := by
        apply Nat.pos_of_ne_zero
        rintro rfl
        apply h0
        apply ext_str
        rw [hr, e2]
        rfl
      refine ⟨-(n : Int), ext_str ?_, by omega⟩
      rw [dS_neg n0, hr, e2]
    · rw [if_neg hh] at e
      exact ⟨n, e, by omega⟩
  · rintro ⟨f, rfl, hf⟩
    rcases dS_cases f with ⟨m, rfl, e⟩ | ⟨m, hm, rfl, e⟩
    · rw [if_neg (by rw [e]; exact head_numL m)]
      refine ⟨⟨m, by omega, rfl⟩, fun hx => ?_⟩
      have := congrArg tl hx
      rw [e] at this
      exact numL_no45 m (this ▸ List.mem_cons_self)
    · rw [if_pos (by rw [e]; rfl), e]
      refine ⟨⟨m, by omega, ext_str (by rw [dS_nat]; rfl)⟩, fun hx => ?_⟩
      have := congrArg tl hx
      rw [e] at this
      have h2 := (List.cons.inj this).2
      have : digitsVal (numL m) = digitsVal [48] := by rw [h2]
      rw [numL_val] at this
      have z : digitsVal [48] = 0 := rfl
      omega
end Tx1
end L2

namespace L2
namespace Tx1
open PySem PySem.NumText TL SX
/-- what a text of a stay tells -/
def okT (f n : Int) : Prop := f.natAbs < 10 ^ 12 ∧ 1 ≤ n ∧ n ≤ 400 ∧ f + n < 10 ^ 12
def txt (f n : Int) : Str := dS f ++ plusS ++ dS n
def isT (x : Str) : Prop := ∃ f n, okT f n ∧ x = txt f n
theorem plus_free (i : Int) : ¬ 43 ∈ tl (dS i) := dS_free (by decide) (by decide) i
theorem tl_txt (f n : Int) : tl (txt f n) = tl (dS f) ++ 43 :: tl (dS n) := by
  unfold txt
  rw [tl_append, tl_append]
  show _ ++ [43] ++ _ = _
  rw [List.append_assoc]
  rfl
theorem kind_plus (x : Str) : ¬ Builtin.Str.strKind x < Builtin.Str.strKind plusS := by
  have : Builtin.Str.strKind plusS = 1 := by decide +kernel
  rw [this]
  unfold Builtin.Str.strKind
  split
  · decide
  · split <;> decide
theorem split_txt (f n : Int) : Txt.split (txt f n) plusS = [dS f, dS n] := by
  apply map_tl_inj
  rw [split_spl _ _ (by decide) (kind_plus _), tl_txt]
  show spl [43] 0 [] _ = _
  have h := spl_part1 (s := 43) (S := []) (p := tl (dS f)) (rest := tl (dS n)) (acc := []) (plus_free f)
  simp only [List.singleton_append, List.nil_append] at h
  rw [h, spl_last1 (plus_free n)]
  rfl
theorem split_two {x a b : Str} (h : Txt.split x plusS = [a, b]) : x = a ++ plusS ++ b := by
  have := StrLaws.join_split x plusS
  rw [h, ← StrLaws.glued_eq_join] at this
  rw [← this]
  apply ext_str
  show (Builtin.Str.glued _ _).cps.toList = _
  rw [StrLaws.glued_list]
  rw [tl_append, tl_append]
  simp [StrLaws.glueT, StrLaws.glueL, tl]
theorem part_txt (f n : Int) : Txt.partition (txt f n) plusS = (dS f, plusS, dS n) := partition_app (s := 43) (S := []) rfl (plus_free f)
theorem part_cases (x : Str) : (¬ 43 ∈ tl x ∧ Txt.partition x plusS = (x, Str.empty, Str.empty)) ∨ (∃ h t, x = h ++ plusS ++ t ∧ Txt.partition x plusS = (h, plusS, t)) := by
  by_cases hx : 43 ∈ tl x
  · right
    obtain ⟨p, q, hp, hpq⟩ : ∃ p q, ¬ 43 ∈ p ∧ tl x = p ++ 43 :: q := by
      revert hx
      generalize tl x = l
      intro hx
      induction l with
      | nil => exact absurd hx (by simp)
      | cons a r ih =>
        by_cases ha : a = 43
        · exact ⟨[], r, by simp, by rw [ha]; rfl⟩
        · have hr : 43 ∈ r := by
            rcases List.mem_cons.1 hx with h | h
            · exact absurd h.symm ha
            · exact h
          obtain ⟨p, q, h1, h2⟩ := ih hr
          refine ⟨a :: p, q, ?_, by rw [h2]; rfl⟩
          intro hm
          rcases List.mem_cons.1 hm with h | h
          · exact ha h.symm
          · exact h1 h
    refine ⟨S p, S q, ext_str ?_, ?_⟩
    · rw [tl_append, tl_append, hpq]
      show _ = p ++ [43] ++ q
      rw [List.append_assoc]
      rfl
    · have e : x = S p ++ plusS ++ S q := ext_str (by
        rw [tl_append, tl_append, hpq]
        show _ = p ++ [43] ++ q
        rw [List.append_assoc]
        rfl)
      rw [e]
      exact partition_app (s := 43) (S := []) rfl hp
  · exact .inl ⟨hx, partition_none (s := 43) (S := []) rfl hx⟩
/-- the law's own look: what partition tells of the text -/
theorem isT_part (x : Str) : isT x ↔ ((Txt.partition x plusS).2.1 ≠ Str.empty ∧ ∃ f n, isN (Txt.partition x plusS).1 f ∧ (Txt.partition x plusS).2.2 = dS n ∧ okT f n) := by
  constructor
  · rintro ⟨f, n, ok, rfl⟩
    rw [part_txt]
    refine ⟨?_, f, n, ⟨rfl, ok.1⟩, rfl, ok⟩
    show plusS ≠ Str.empty
    decide
  · rcases part_cases x with ⟨hx, e⟩ | ⟨h, t, rfl, e⟩ <;> rw [e]
    · rintro ⟨h, _⟩
      exact absurd rfl h
    · rintro ⟨_, f, n, ⟨h1, _⟩, h2, ok⟩
      exact ⟨f, n, ok, by rw [show h = dS f from h1, show t = dS n from h2]; rfl⟩
theorem isT_split {x : Str} {a b : Str} {f n : Int} (h : Txt.split x plusS = [a, b]) (ha : isN a f) (hb : isN b n) : x = txt f n := by
  rw [split_two h, ha.1, hb.1]
  rfl
theorem txt_inj {f n g m : Int} (h : txt f n = txt g m) : f = g ∧ n = m := by
  have h := congrArg (fun x => Txt.split x plusS) h
  simp only [split_txt] at h
  exact ⟨dS_inj (List.cons.inj h).1, dS_inj (List.cons.inj (List.cons.inj h).2).1⟩
end Tx1
end L2

/-! Words of texts. -/
namespace L2
open PySem PySem.Spec PyProof.Rows Tx1
section
variable {X : Cx}
def rMRp : V → List V → Hp → VK → Prop := fun x xs H Q => ∃ a b, x = .str a ∧ xs = [.str b] ∧ a.length ≤ sizeLine ∧ Q (.str (Txt.removeprefix a b)) H
theorem m_rp : MtR X "str.removeprefix" rMRp := mt_removeprefix
def rMDec : V → List V → Hp → VK → Prop := fun x xs H Q => ∃ a, x = .str a ∧ xs = [] ∧ True ∧ Q (.bl (Txt.isdecimal a)) H
theorem m_dec : MtR X "str.isdecimal" rMDec := mt_isdecimal
def rLenS : List V → Hp → VK → Prop := fun xs H Q => ∃ a, xs = [.str a] ∧ a.length ≤ sizeLine ∧ Q (.int a.length) H
theorem c_lenS : CallR X (.builtin "len") rLenS := by
  intro pins s σ H xs us Q I r ⟨a, e, hl, q⟩
  exact call_len pins s σ H xs us Q I r ⟨.str a, a.length, e, ⟨hl, rfl⟩, q⟩
def rIntS : List V → Hp → VK → Prop := fun xs H Q => ∃ a n, xs = [.str a] ∧ intText? a = some n ∧ a.length ≤ 640 ∧ Q (.int n) H
theorem c_intS : CallR X (.type "int") rIntS := call_int_str
def rAddT : R2 := fun x y H Q => ∃ i j, x = .str i ∧ y = .str j ∧ i.length + j.length ≤ sizeLine ∧ Q (.str (i ++ j)) H
theorem op_addT : OpR X (binaryOp .Add) rAddT := op_add_str
def rNotInT : R2 := fun x y H Q => ∃ i j, x = .str i ∧ y = .str j ∧ Q (.bl !!(Builtin.Str.occurrences j i 0 j.length 1).isEmpty) H
theorem op_notInT : OpR X (compareOp .NotIn) rNotInT := op_notIn_str
def rMSplit : V → List V → Hp → VK → Prop := fun x xs H Q => ∃ a b, x = .str a ∧ xs = [.str b] ∧ (b.length == 0) = false ∧ a.length + 2 ≤ sizeLine ∧ rNewStrs (Txt.split a b) H Q
def rMPart : V → List V → Hp → VK → Prop := fun x xs H Q => ∃ a b, x = .str a ∧ xs = [.str b] ∧ (b.length == 0) = false ∧ a.length ≤ sizeLine ∧ ∀ p : Addr, H p = none → Q (.ref p) (upd H p (.tup [.str (Txt.partition a b).1, .str (Txt.partition a b).2.1, .str (Txt.partition a b).2.2]))
variable {o e : Expr} {to te : TE} {apos pos : Pos}
theorem pe_splitQ (ho : PE X o to) (he : PE X e te) (hs : starEach [e] X.env = [(false, eval e X.env)] := by rfl) (hb : attributeBase o "split" X.env (eval o X.env) = eval o X.env := by rfl) (hp : (apos.endLine == pos.line) = true := by rfl) :
    PE X (.Call (.Attribute o "split" apos) [e] [] pos) (tM1 rMSplit to te) := pe_split ho he hs hb hp
theorem pe_partQ (ho : PE X o to) (he : PE X e te) (hs : starEach [e] X.env = [(false, eval e X.env)] := by rfl) (hb : attributeBase o "partition" X.env (eval o X.env) = eval o X.env := by rfl) (hp : (apos.endLine == pos.line) = true := by rfl) :
    PE X (.Call (.Attribute o "partition" apos) [e] [] pos) (tM1 rMPart to te) := pe_partition ho he hs hb hp
def rIxZ : R2 := fun x y H Q => ∃ z i c, x = .str z ∧ y = .int i ∧ 0 ≤ i ∧ i < 2 ^ 63 ∧ i < ↑z.length ∧ z.cps[i.toNat]? = some c ∧ Q (.str { cps := #[c] }) H
theorem pe_itemZ {a b : Expr} {ta tb : TE} (ha : PE X a ta) (hb : PE X b tb) (hp : PlainIxT b) : PE X (.Subscript a b pos) (tOp rIxZ ta tb) := pe_item_str ha hb hp
end
end L2
namespace AW
open PySem PySem.Spec PyProof.Rows L2 ClX Tx1
section
variable {c : Cw} {kn : Hp} {n : Nat} {σ : L2.St} {K : PySem.W.Frag} {Q : V → Hp → Nat → Prop} {E : XK} {EA : EAK} {B : List V → Hp → AK → AXK → Prop}
theorem sz {m : Nat} (h : m ≤ 100000) : m ≤ sizeLine := Nat.le_trans h (by rw [sizeLine_eq]; decide)
theorem w_bmS {r : V → List V → Hp → VK → Prop} {to : TE} {t : TA} (h : W c (to σ) kn n fun x kn1 n1 => (∃ a, x = .str a) ∧ W c (t σ) kn1 n1 fun xs kn2 n2 => W c (r x xs) kn2 n2 Q) : W c (tBM K "str" r to t σ) kn n Q :=
  fun H g Q' q => h H g _ fun x kn1 n1 H1 ⟨⟨a, e⟩, h1⟩ g1 => ⟨by subst e; exact rfl, h1 H1 g1 _ fun xs kn2 n2 H2 h2 g2 => h2 H2 g2 Q' q⟩
theorem w_bmS0 {r : V → List V → Hp → VK → Prop} {to : TE} (h : W c (to σ) kn n fun x kn1 n1 => (∃ a, x = .str a) ∧ W c (r x []) kn1 n1 Q) : W c (tBM0 K "str" r to σ) kn n Q :=
  fun H g Q' q => h H g _ fun x kn1 n1 H1 ⟨⟨a, e⟩, h1⟩ g1 => ⟨by subst e; exact rfl, h1 H1 g1 Q' q⟩
theorem w_m1 {r : V → List V → Hp → VK → Prop} {to te : TE} (h : W c (to σ) kn n fun x kn1 n1 => (∃ a, x = .str a) ∧ W c (te σ) kn1 n1 fun y kn2 n2 => W c (r x [y]) kn2 n2 Q) : W c (tM1 r to te σ) kn n Q :=
  fun H g Q' q => h H g _ fun x kn1 n1 H1 ⟨e, h1⟩ g1 => ⟨e, h1 H1 g1 _ fun xs kn2 n2 H2 h2 g2 => h2 H2 g2 Q' q⟩
theorem r_rp {a b : Str} (hl : a.length ≤ 100000) (q : Q (.str (Txt.removeprefix a b)) kn n) : W c (rMRp (.str a) [.str b]) kn n Q := fun H g _ k => ⟨a, b, rfl, rfl, sz hl, k _ kn n H q g⟩
theorem r_dec {a : Str} (q : Q (.bl (Txt.isdecimal a)) kn n) : W c (rMDec (.str a) []) kn n Q := fun H g _ k => ⟨a, rfl, rfl, trivial, k _ kn n H q g⟩
theorem r_lenS {a : Str} (hl : a.length ≤ 100000) (q : Q (.int a.length) kn n) : W c (rLenS [.str a]) kn n Q := fun H g _ k => ⟨a, rfl, sz hl, k _ kn n H q g⟩
theorem r_intS {a : Str} {i : Int} (hi : intText? a = some i) (hl : a.length ≤ 640) (q : Q (.int i) kn n) : W c (rIntS [.str a]) kn n Q := fun H g _ k => ⟨a, i, rfl, hi, hl, k _ kn n H q g⟩
theorem r_addT {a b : Str} (hl : a.length + b.length ≤ 100000) (q : Q (.str (a ++ b)) kn n) : W c (rAddT (.str a) (.str b)) kn n Q := fun H g _ k => ⟨a, b, rfl, rfl, sz hl, k _ kn n H q g⟩
theorem r_notInT {a b : Str} (q : Q (.bl !!(Builtin.Str.occurrences b a 0 b.length 1).isEmpty) kn n) : W c (rNotInT (.str a) (.str b)) kn n Q := fun H g _ k => ⟨a, b, rfl, rfl, k _ kn n H q g⟩
theorem r_split {a b : Str} (hb : (b.length == 0) = false) (hl : a.length + 2 ≤ 100000) (q : ∀ p, kn p = none → Q (.ref p) (upd kn p (.lst ((Txt.split a b).map V.str))) n) : W c (rMSplit (.str a) [.str b]) kn n Q :=
  fun H g _ k => ⟨a, b, rfl, rfl, hb, sz hl, fun p hp => k _ _ n _ (q p (g.free hp)) (g.new hp)⟩
theorem r_part {a b : Str} (hb : (b.length == 0) = false) (hl : a.length ≤ 100000) (q : ∀ p, kn p = none → Q (.ref p) (upd kn p (.tup [.str (Txt.partition a b).1, .str (Txt.partition a b).2.1, .str (Txt.partition a b).2.2])) n) : W c (rMPart (.str a) [.str b]) kn n Q :=
  fun H g _ k => ⟨a, b, rfl, rfl, hb, sz hl, fun p hp => k _ _ n _ (q p (g.free hp)) (g.new hp)⟩
theorem r_ixZ {z : Str} {i : Int} {d : Nat} (h0 : 0 ≤ i) (h1 : i < 2 ^ 63) (h2 : i < z.length) (h3 : z.cps[i.toNat]? = some d) (q : Q (.str { cps := #[d] }) kn n) : W c (rIxZ (.str z) (.int i)) kn n Q := fun H g _ k => ⟨z, i, d, rfl, rfl, h0, h1, h2, h3, k _ kn n H q g⟩
theorem r_slS {z : Str} {lo hi : Option Int} (hl : z.length ≤ 100000) (q : Q (.str (cutS z lo hi)) kn n) : W c (rSlS (.str z) lo hi) kn n Q := fun H g _ k => ⟨z, rfl, sz hl, k _ kn n H q g⟩
/-- a classmethod -/
theorem w_cmeth {C : Addr} {ta : TE} {t : TA} (hm : MonoX B) (hE : ErrOk c EA E) (h : W c (ta σ) kn n fun x kn1 n1 => x = .ref C ∧ W c (t σ) kn1 n1 fun vs kn2 n2 => B (.ref C :: vs) kn2 (fun v k => Q v k n2) (fun cls d k => EA cls d k n2)) : W c (tCMeth C (liftX B) E ta t σ) kn n Q :=
  fun H g Q' q => h H g _ fun x kn1 n1 H1 ⟨e, h1⟩ g1 => ⟨e, h1 H1 g1 _ fun vs kn2 n2 H2 h2 g2 => sp_call hm hE h2 H2 g2 Q' q⟩
def chr1 (d : Nat) : V := .str { cps := #[d] }
theorem gives_str {a : Str} : Gives (Its a) ((TL.tl a).map chr1) fun _ => True := fun kn H e h =>
  ⟨fun i hi => by show i < a.cps.size; simpa [TL.tl] using hi, fun i hi => by show a.cps.size ≤ i; simpa [TL.tl] using hi, fun i x H' y => ⟨y.1, fun hi => by
    obtain ⟨_, d, hd, rfl⟩ := y
    rw [List.getElem?_map]
    have : (TL.tl a)[i]? = some d := by simpa [TL.tl] using hd
    rw [this]
    rfl⟩⟩
theorem i_str {te : TE} {R : It → Hp → Nat → Prop} (h : W c (te σ) kn n fun x kn1 n1 => ∃ z, x = .str z ∧ R (Its z) kn1 n1) : WI c (iStr te σ) kn n R :=
  fun H g R' q => h H g _ fun x kn1 n1 H1 ⟨z, e, hr⟩ g1 => ⟨z, e, q _ _ _ _ hr g1⟩
end
end AW

/-! s[::-1] of a text. -/
namespace L2
open PySem PySem.Spec PyProof.Rows
def revS (z : Str) : Str := { cps := (List.filterMap (fun i => z.cps[i]?) (Builtin.Str.strSliceIndices none none (-1) z.length)).toArray }
def tRevS (te : TE) : TE := fun σ H Q => te σ H fun x H1 => ∃ z, x = .str z ∧ z.length ≤ sizeLine ∧ Q (.str (revS z)) H1
theorem revS_sub (z : Str) : ∀ c ∈ TL.tl (revS z), c ∈ TL.tl z := by
  intro c hc
  have hc : c ∈ List.filterMap (fun i => z.cps[i]?) (Builtin.Str.strSliceIndices none none (-1) z.length) := by simpa [revS, TL.tl] using hc
  obtain ⟨i, _, h⟩ := List.mem_filterMap.1 hc
  exact List.mem_of_getElem? (by simpa [TL.tl] using h : (TL.tl z)[i]? = some c)
theorem revS_len (z : Str) : (revS z).length ≤ z.length := by
  have h := Txt.sliceBy_le z none none (-1, default) (by decide)
  have e : Txt.sliceBy z none none (-1, default) = revS z := rfl
  rw [e] at h
  exact h
section
variable {X : Cx} {e : Expr} {te : TE} {k : Nat} {p1 p2 p3 pos : Pos}
theorem gip_str (z : Str) (t : Tok) : getitemInPython (.str z t) = pure false := by
  unfold getitemInPython specialOf
  have h1 : typeOf (Value.str z t) = pure (.type "str") := rfl
  have h2 : typeLookup (.type "str") "__getitem__" = pure (some (.builtin "str.__getitem__")) := W.of_pureOf rfl
  rw [h1, pure_bind, h2, pure_bind]
theorem ltg_str (e : Expr) (z : Str) (t : Tok) (r : Value) : letTemporaryGo e (.str z t) r = pure () := by
  cases e <;> rfl
theorem pe_revS (he : PE X e te) : PE X (.Subscript e (.Slice none none (some (.UnaryOp .USub (.Constant (.int 1) k p1) p2)) p3) pos) (tRevS te) := by
  refine ⟨fun pins s σ H Q I h => ?_⟩
  have hu : PE X (.UnaryOp .USub (.Constant (.int 1) k p1) p2) (tUn (rU fun i => V.int (-i)) (tC (.int 1))) := pe_un un_neg pe_int
  refine Subscript_ (thn (he.run pins s σ H _ I h) fun v s1 ⟨x, H1, I1, rx, z, ex, hz, q⟩ => ?_)
  subst ex
  obtain ⟨t, rfl⟩ := rx
  refine wpAny_Slice ?_
  refine wpAny_pure (wpAny_pure (wpAny_evalPart_some (thn (hu.run pins s1 σ H1 (fun v H2 => v = .int (-1) ∧ H2 = H1) I1 ⟨1, rfl, rfl, rfl⟩) fun w s2 ⟨y, H2, I2, ry, ey, eH⟩ => ?_)))
  subst ey eH
  obtain ⟨tk, rfl⟩ := ry
  have I3 : Inv X pins σ H2 ⟨s2.heap.push { cls := .type "slice", data := .fields #[.none, .none, .int (-1) tk] }, s2.gens, s2.drawn, s2.toks, s2.os⟩ := I2.kept (t' := s2.toks) fun b u e => Heap.get?_push_of_some _ e
  unfold subscriptTail
  rw [gip_str, pure_bind]
  refine wpAny_bind ?_
  show wpAny _ _ (operate [.str z t, .ref s2.heap.objs.size] (getItem (.str z t) (.ref s2.heap.objs.size))) _ _ _
  refine wpAny_operating (wpAny_getItem_str_slice (l := none) (u := none) (st := some (-1, tk)) ⟨_, Heap.get?_push_size _ rfl, rfl, rfl⟩ rfl ?_)
  unfold sliceMade
  rw [if_neg (by simp)]
  simp only [Made.post]
  refine ⟨Nat.le_trans (revS_len z) hz, ?_⟩
  rw [ltg_str, pure_bind]
  exact wpAny_pure ⟨.str (revS z), H2, I3.tok _, ⟨_, rfl⟩, q⟩
end
end L2
namespace AW
open PySem PySem.Spec L2
theorem w_revS {c : Cw} {kn : Hp} {n : Nat} {σ : L2.St} {te : TE} {Q : V → Hp → Nat → Prop} (h : W c (te σ) kn n fun x kn1 n1 => ∃ z, x = .str z ∧ z.length ≤ 100000 ∧ Q (.str (revS z)) kn1 n1) : W c (tRevS te σ) kn n Q :=
  fun H g Q' q => h H g _ fun x kn1 n1 H1 ⟨z, e, hl, hq⟩ g1 => ⟨z, e, sz hl, q _ _ _ _ hq g1⟩
end AW

/-! A classmethod called with keywords. -/
namespace L2
open PySem PySem.Spec PyProof.Rows ClX
def tCMethKW (C : Addr) (n : Nat) (sp : Sp) (gV : List V → List V → List V) (E : XK) (ta : TE) (tk : TA) : TE := fun σ H Q => ta σ H fun x H1 => x = .ref C ∧ tk σ H1 fun zs H2 => zs.length = n ∧ sp (gV [.ref C] zs) H2 Q E
section
variable {X : Cx} {CX : CXT} {k : Nat} {g C p : Addr} {mc : Value} {m : Str} {fd : FuncData} {ps ks : List Str} {sp : Sp} {E : XK} {o : Expr} {kws : List Keyword} {pos apos : Pos} {ta : TE} {tk : TA} {pl : Sem Bool} {pins : List (Addr × Obj)} {σ : St} {H : Hp} {s : Shared} {gq : List Value → List Value → List Value} {gV : List V → List V → List V}
theorem getcm_ok {A : Around} {E : Value → Shared → Prop} {Q : Value × List Value → Shared → Prop} (I : Inv X pins σ H s) (r : CRead X.K C mc) (c : CMet X.K C mc m p g) (h : ∀ q s', Inv X ((q, PySem.W.methodObj (.ref g) (.ref C)) :: pins) σ H s' → X.base.get? q = none → Q (.ref q, []) s') : wpAny (model X.prog X.w) A (getMethod (.ref C) m pl) Q E s := by
  obtain ⟨rest, hp⟩ := c.rc
  exact PySem.W.method_cls I.kIn r.ga (PySem.W.cls_bind I.kIn r.rd c.at_ (wpAny_call (PySem.W.cm_get (s := { s with toks := s.toks + 1 }) I.kIn hp (PySem.W.handed_on rfl (h _ _ (met_new I) (base_none I (Nat.le_refl _)))))))
theorem pe_cmethKW (he : PE X o ta) (r : CRead X.K C mc) (c : CMet X.K C mc m p g) (F : FnOk X.prog X.w X.K X.mg X.base CX k g fd ps sp) (hr : Room k X.A) (hb : KBn X.K fd ps 1 ks gq gV) (hx : Passes CX X E) (hkw : PK X kws tk)
    (hall : (backToKw pos (keywordEach kws X.env)).all (·.1.isSome) = true := by rfl) (hks : (backToKw pos (keywordEach kws X.env)).filterMap (·.1) = ks := by rfl)
    (hpl : ((backTo pos (starEach [] X.env)).any (·.1) || (backToKw pos (keywordEach kws X.env)).any (·.1.isNone)) = false := by rfl)
    (ht : eval (.Call (.Attribute o m apos) [] kws pos) X.env = (do
      let ov ← eval o X.env
      standAt apos.atName
      let (fn, first) ← holding [ov] (getMethod ov m pl)
      callWith pos fn first (backTo pos (starEach [] X.env)) (backToKw pos (keywordEach kws X.env))) := by rfl) :
    PE X (.Call (.Attribute o m apos) [] kws pos) (tCMethKW C ks.length sp gV E ta tk) := by
  refine ⟨fun pins s σ H Q I h => ?_⟩
  refine PySem.W.methodCall_KW (pl := pl) (thn (he.run pins s σ H _ I h) fun u s1 ⟨x, H1, I1, rx, ex, q⟩ => ?_) ht
  subst ex
  obtain rfl : u = Value.ref C := rx
  refine getcm_ok I1 r c fun qa s2 I2 hbase => ?_
  refine PySem.W.callWith_of (P := fun h => PySem.W.MethP X.K qa g (.ref C) h) hpl (PySem.W.keeps_M c.fi) ?_
  refine evalArgs_kw_nil hall (thn (hkw.run pos _ s2 σ H1 _ I2 q) fun ws s3 ⟨zs, H2, I3, rz, lz, q2⟩ => ⟨⟨pin_at I3, I3.kIn⟩, ?_⟩)
  rw [hks]
  have r1 : Vals [V.ref C] [Value.ref C] := .cons rfl .nil
  have lw : ws.length = ks.length := rz.length.symm.trans lz
  refine wpAny_mono (Q := EP X ((qa, PySem.W.methodObj (.ref g) (.ref C)) :: pins) σ Q) (wpAny_call (PySem.W.method_call (pin_at I3) (codeAny_mono (F.run X.A X.stack s3 H2 ⟨[.ref C], ks.zip ws⟩ (gq [.ref C] ws) (gV [.ref C] zs) Q E hr I3.env0 (hb.to s3 [.ref C] ws I3.kIn rfl lw) (hb.rel r1 rz) q2) fun r s' hq => ?_))) (fun v s' hv => unpinE hv) (fun _ _ z => z)
  cases r with
  | error e => exact hx _ σ H2 s3 e s' I3 hq
  | ok fl =>
    cases fl with
    | ret u => exact I3.after hq
    | next => exact False.elim hq
    | brk => exact False.elim hq
    | cont => exact False.elim hq
end
end L2
namespace AW
open PySem PySem.Spec L2 ClX
theorem w_cmethKW {c : Cw} {kn : Hp} {n m : Nat} {σ : L2.St} {Q : V → Hp → Nat → Prop} {E : XK} {EA : EAK} {B : List V → Hp → AK → AXK → Prop} {C : Addr} {gV : List V → List V → List V} {ta : TE} {tk : TA} (hm : MonoX B) (hE : ErrOk c EA E)
    (h : W c (ta σ) kn n fun x kn1 n1 => x = .ref C ∧ W c (tk σ) kn1 n1 fun zs kn2 n2 => zs.length = m ∧ B (gV [.ref C] zs) kn2 (fun v k => Q v k n2) (fun cls d k => EA cls d k n2)) : W c (tCMethKW C m (liftX B) gV E ta tk σ) kn n Q :=
  fun H g Q' q => h H g _ fun x kn1 n1 H1 ⟨e, h1⟩ g1 => ⟨e, h1 H1 g1 _ fun vs kn2 n2 H2 ⟨l, h2⟩ g2 => ⟨l, sp_call hm hE h2 H2 g2 Q' q⟩⟩
end AW

namespace NN
open PySem PySem.Spec PyProof.Rows L2 LamX AW ClX
def codeTab : Obj → Option Addr
  | ⟨.type "code", _, .fields vs, _⟩ => match (vs[11]? : Option Value) with | some (.ref P) => some P | _ => none
  | _ => none
def codeB (o : Obj) (c P : Addr) : Bool := PySem.W.codeHdIn [(c, o)] c P
theorem codeB_in {K : PySem.W.Frag} {o : Obj} {c P : Addr} (h : K.lookup c = some o) (e : codeB o c P = true) : PySem.W.codeHdIn K c P = true := by
  have q : ([(c, o)] : PySem.W.Frag).lookup c = some o := by simp [List.lookup]
  unfold codeB PySem.W.codeHdIn at e
  rw [q] at e
  unfold PySem.W.codeHdIn
  rw [h]
  exact e
theorem mem_look {β : Type} : ∀ {l : List (Addr × β)} {a : Addr} {b : β}, l.lookup a = some b → (a, b) ∈ l
  | [], _, _, e => by cases e
  | (c, x) :: r, a, b, e => by
    rw [List.lookup_cons] at e
    cases hb : a == c with
    | true => rw [hb] at e; cases e; rw [eq_of_beq hb]; exact .head _
    | false => rw [hb] at e; exact .tail _ (mem_look e)
theorem none_of {K : Params → PySem.W.Frag} {as : List Addr} {e : ∀ P, as = (K P).map (·.1)} {ts : List Addr} {w : World} {h : Heap} (_ : (PySem.W.kmHook K as e ts).says w h) {a : Addr} (ha : decide (a ∈ as) = false) : (K w.params).lookup a = none := by
  cases q : (K w.params).lookup a with
  | none => rfl
  | some o =>
    have m : a ∈ as := by rw [e w.params]; exact List.mem_map.mpr ⟨(a, o), mem_look q, rfl⟩
    exact absurd m (of_decide_eq_false ha)
def top (i : Nat) : Stmt := PySem.Challenge.pw_nodeadnight_k16_texts_of_stays.main.body.getD i (.Pass ⟨0, 0, 0, 0⟩)
abbrev s_is_whole : Stmt := top 4
theorem sc_is_whole : FnScope ["value"] ["value"] (defScope s_is_whole) :=
  ⟨rfl, rfl, rfl, by decide +kernel, rfl, by decide +kernel, by decide +kernel⟩
abbrev s_is_from : Stmt := top 5
theorem sc_is_from : FnScope ["value", "least", "most"] ["value", "least", "most"] (defScope s_is_from) :=
  ⟨rfl, rfl, rfl, by decide +kernel, rfl, by decide +kernel, by decide +kernel⟩
abbrev s_is_day : Stmt := top 6
theorem sc_is_day : FnScope ["value"] ["value"] (defScope s_is_day) :=
  ⟨rfl, rfl, rfl, by decide +kernel, rfl, by decide +kernel, by decide +kernel⟩
abbrev s_read_number : Stmt := top 7
theorem sc_read_number : FnScope ["word", "digits", "number"] ["word"] (defScope s_read_number) :=
  ⟨rfl, rfl, rfl, by decide +kernel, rfl, by decide +kernel, by decide +kernel⟩
abbrev s_BadStay___init__ : Stmt := inClass (top 11) 0
theorem sc_BadStay___init__ : FnScope ["self", "part"] ["self", "part"] (defScope s_BadStay___init__) :=
  ⟨rfl, rfl, rfl, by decide +kernel, rfl, by decide +kernel, by decide +kernel⟩
abbrev s_BadText___init__ : Stmt := inClass (top 12) 0
theorem sc_BadText___init__ : FnScope ["self", "line", "word"] ["self", "line", "word"] (defScope s_BadText___init__) :=
  ⟨rfl, rfl, rfl, by decide +kernel, rfl, by decide +kernel, by decide +kernel⟩
abbrev s_Stay___init__ : Stmt := inClass (top 14) 1
theorem sc_Stay___init__ : FnScope ["self", "first", "after"] ["self", "first", "after"] (defScope s_Stay___init__) :=
  ⟨rfl, rfl, rfl, by decide +kernel, rfl, by decide +kernel, by decide +kernel⟩
abbrev s_Stay_read : Stmt := inClass (top 14) 2
theorem sc_Stay_read : FnScope ["cls", "text", "words", "numbers", "word", "first", "nights"] ["cls", "text"] (defScope s_Stay_read) :=
  ⟨rfl, rfl, rfl, by decide +kernel, rfl, by decide +kernel, by decide +kernel⟩
abbrev s_Stay___eq__ : Stmt := inClass (top 14) 10
theorem sc_Stay___eq__ : FnScope ["self", "other"] ["self", "other"] (defScope s_Stay___eq__) :=
  ⟨rfl, rfl, rfl, by decide +kernel, rfl, by decide +kernel, by decide +kernel⟩
abbrev s_Stay___str__ : Stmt := inClass (top 14) 11
theorem sc_Stay___str__ : FnScope ["self"] ["self"] (defScope s_Stay___str__) :=
  ⟨rfl, rfl, rfl, by decide +kernel, rfl, by decide +kernel, by decide +kernel⟩
abbrev s__law_pen : Stmt := top 16
theorem sc__law_pen : FnScope ["script"] ["script"] (defScope s__law_pen) :=
  ⟨rfl, rfl, rfl, by decide +kernel, rfl, by decide +kernel, by decide +kernel⟩
abbrev s__law_draw : Stmt := top 17
theorem sc__law_draw : FnScope ["pen", "many", "digit", "at", "cell", "great", "mixed"] ["pen", "many"] (defScope s__law_draw) :=
  ⟨rfl, rfl, rfl, by decide +kernel, rfl, by decide +kernel, by decide +kernel⟩
abbrev s__law_pick : Stmt := top 18
theorem sc__law_pick : FnScope ["pen", "some"] ["pen", "some"] (defScope s__law_pick) :=
  ⟨rfl, rfl, rfl, by decide +kernel, rfl, by decide +kernel, by decide +kernel⟩
abbrev s__law_heard : Stmt := top 19
theorem sc__law_heard : FnScope ["ask", "caught", "found", "error"] ["ask"] (defScope s__law_heard) :=
  ⟨rfl, rfl, rfl, by decide +kernel, rfl, by decide +kernel, by decide +kernel⟩
abbrev s__law_is_count : Stmt := top 20
theorem sc__law_is_count : FnScope ["word", "figures", "sign"] ["word", "figures"] (defScope s__law_is_count) :=
  ⟨rfl, rfl, rfl, by decide +kernel, rfl, by decide +kernel, by decide +kernel⟩
abbrev s__law_is_text : Stmt := top 21
theorem sc__law_is_text : FnScope ["line", "head", "sign", "tail", "bare"] ["line"] (defScope s__law_is_text) :=
  ⟨rfl, rfl, rfl, by decide +kernel, rfl, by decide +kernel, by decide +kernel⟩
abbrev s__law_bent : Stmt := top 22
theorem sc__law_bent : FnScope ["pen", "line", "way", "at", "sign"] ["pen", "line"] (defScope s__law_bent) :=
  ⟨rfl, rfl, rfl, by decide +kernel, rfl, by decide +kernel, by decide +kernel⟩
abbrev s_law : Stmt := top 23
theorem sc_law : FnScope ["script", "pen", "bound", "turn", "many", "begin", "made", "line", "bent", "odd", "told"] ["script"] (defScope s_law) :=
  ⟨rfl, rfl, rfl, by decide +kernel, rfl, by decide +kernel, by decide +kernel⟩
structure Tx (K : PySem.W.Frag) (mg : Str → Option Value) where
  f_is_whole : Addr
  d_is_whole : FuncData
  f_is_from : Addr
  d_is_from : FuncData
  f_is_day : Addr
  d_is_day : FuncData
  f_read_number : Addr
  d_read_number : FuncData
  c_StayError : Addr
  c_BadStay : Addr
  f_BadStay___init__ : Addr
  d_BadStay___init__ : FuncData
  c_BadText : Addr
  f_BadText___init__ : Addr
  d_BadText___init__ : FuncData
  c_Stay : Addr
  f_Stay___init__ : Addr
  d_Stay___init__ : FuncData
  f_Stay___eq__ : Addr
  d_Stay___eq__ : FuncData
  f_Stay___str__ : Addr
  d_Stay___str__ : FuncData
  f_Stay_read : Addr
  p_Stay_read : Addr
  d_Stay_read : FuncData
  f__law_pen : Addr
  d__law_pen : FuncData
  f__law_draw : Addr
  d__law_draw : FuncData
  f__law_pick : Addr
  d__law_pick : FuncData
  f__law_heard : Addr
  d__law_heard : FuncData
  f__law_is_count : Addr
  d__law_is_count : FuncData
  f__law_is_text : Addr
  d__law_is_text : FuncData
  f__law_bent : Addr
  d__law_bent : FuncData
  f_law : Addr
  d_law : FuncData
  cc_law : Addr
  tp_law : Addr
  g_is_whole : mg "is_whole" = some (.ref f_is_whole)
  F_is_whole : Fun K "is_whole" "is_whole" s_is_whole f_is_whole d_is_whole
  bd_is_whole : Binds K d_is_whole ["value"] []
  g_is_from : mg "is_from" = some (.ref f_is_from)
  F_is_from : Fun K "is_from" "is_from" s_is_from f_is_from d_is_from
  bd_is_from : Binds K d_is_from ["value", "least", "most"] []
  g_is_day : mg "is_day" = some (.ref f_is_day)
  F_is_day : Fun K "is_day" "is_day" s_is_day f_is_day d_is_day
  bd_is_day : Binds K d_is_day ["value"] []
  g_read_number : mg "read_number" = some (.ref f_read_number)
  F_read_number : Fun K "read_number" "read_number" s_read_number f_read_number d_read_number
  bd_read_number : Binds K d_read_number ["word"] []
  g_StayError : mg "StayError" = some (.ref c_StayError)
  g_BadStay : mg "BadStay" = some (.ref c_BadStay)
  x_BadStay : OexC K c_BadStay
  xf_BadStay : XfC K c_BadStay
  xc_BadStay : ExcC K c_BadStay
  nx_BadStay_part : PySem.W.findIn K (.ref c_BadStay) "part" = some none
  fi_BadStay___init__ : PySem.W.findIn K (.ref c_BadStay) "__init__" = some (some (.ref f_BadStay___init__))
  isf_BadStay___init__ : PySem.W.isFn K (.ref f_BadStay___init__) = true
  F_BadStay___init__ : Fun K "__init__" "BadStay.__init__" s_BadStay___init__ f_BadStay___init__ d_BadStay___init__
  bd_BadStay___init__ : Binds K d_BadStay___init__ ["self", "part"] []
  ti_BadStay : PySem.W.typeIn K (.ref f_BadStay___init__) = some (.type "function")
  g_BadText : mg "BadText" = some (.ref c_BadText)
  x_BadText : OexC K c_BadText
  xf_BadText : XfC K c_BadText
  xc_BadText : ExcC K c_BadText
  nx_BadText_line : PySem.W.findIn K (.ref c_BadText) "line" = some none
  nx_BadText_word : PySem.W.findIn K (.ref c_BadText) "word" = some none
  fi_BadText___init__ : PySem.W.findIn K (.ref c_BadText) "__init__" = some (some (.ref f_BadText___init__))
  isf_BadText___init__ : PySem.W.isFn K (.ref f_BadText___init__) = true
  F_BadText___init__ : Fun K "__init__" "BadText.__init__" s_BadText___init__ f_BadText___init__ d_BadText___init__
  bd_BadText___init__ : Binds K d_BadText___init__ ["self", "line", "word"] []
  ti_BadText : PySem.W.typeIn K (.ref f_BadText___init__) = some (.type "function")
  g_Stay : mg "Stay" = some (.ref c_Stay)
  cl_Stay : Cls K c_Stay
  own_Stay : OwnC K c_Stay
  na_Stay_first : NoAttr K c_Stay "first"
  na_Stay_after : NoAttr K c_Stay "after"
  na_Stay__nights : NoAttr K c_Stay "_nights"
  fi_Stay___init__ : PySem.W.findIn K (.ref c_Stay) "__init__" = some (some (.ref f_Stay___init__))
  isf_Stay___init__ : PySem.W.isFn K (.ref f_Stay___init__) = true
  F_Stay___init__ : Fun K "__init__" "Stay.__init__" s_Stay___init__ f_Stay___init__ d_Stay___init__
  bd_Stay___init__ : Binds K d_Stay___init__ ["self", "first", "after"] []
  fi_Stay___eq__ : PySem.W.findIn K (.ref c_Stay) "__eq__" = some (some (.ref f_Stay___eq__))
  isf_Stay___eq__ : PySem.W.isFn K (.ref f_Stay___eq__) = true
  F_Stay___eq__ : Fun K "__eq__" "Stay.__eq__" s_Stay___eq__ f_Stay___eq__ d_Stay___eq__
  bd_Stay___eq__ : Binds K d_Stay___eq__ ["self", "other"] []
  fi_Stay___str__ : PySem.W.findIn K (.ref c_Stay) "__str__" = some (some (.ref f_Stay___str__))
  isf_Stay___str__ : PySem.W.isFn K (.ref f_Stay___str__) = true
  F_Stay___str__ : Fun K "__str__" "Stay.__str__" s_Stay___str__ f_Stay___str__ d_Stay___str__
  bd_Stay___str__ : Binds K d_Stay___str__ ["self"] []
  cr_Stay : CRead K c_Stay (.type "type")
  F_Stay_read : Fun K "read" "Stay.read" s_Stay_read f_Stay_read d_Stay_read
  bd_Stay_read : Binds K d_Stay_read ["cls", "text"] []
  cm_Stay_read : CMet K c_Stay (.type "type") "read" p_Stay_read f_Stay_read
  exm_BadText : PySem.W.exmOne K (.ref c_BadText) (.ref c_StayError) = some true
  exm_BadStay : PySem.W.exmOne K (.ref c_BadStay) (.ref c_BadStay) = some true
  kit_BadText : PySem.W.kitOne K (.ref c_BadText) (.ref c_BadText) = some true
  kit_Stay : PySem.W.kitOne K (.ref c_Stay) (.ref c_Stay) = some true
  kit_Stay_int : PySem.W.kitOne K (.ref c_Stay) (.type "int") = some false
  kit_Stay_str : PySem.W.kitOne K (.ref c_Stay) (.type "str") = some false
  sb_Stay_NoneType : PySem.W.subIn K (.ref c_Stay) (.type "NoneType") = some false
  kit_NoneType_Stay : PySem.W.kitOne K (.type "NoneType") (.ref c_Stay) = some false
  sb_Stay_bool : PySem.W.subIn K (.ref c_Stay) (.type "bool") = some false
  kit_bool_Stay : PySem.W.kitOne K (.type "bool") (.ref c_Stay) = some false
  sb_Stay_int : PySem.W.subIn K (.ref c_Stay) (.type "int") = some false
  kit_int_Stay : PySem.W.kitOne K (.type "int") (.ref c_Stay) = some false
  sb_Stay_str : PySem.W.subIn K (.ref c_Stay) (.type "str") = some false
  kit_str_Stay : PySem.W.kitOne K (.type "str") (.ref c_Stay) = some false
  sb_Stay_tuple : PySem.W.subIn K (.ref c_Stay) (.type "tuple") = some false
  kit_tuple_Stay : PySem.W.kitOne K (.type "tuple") (.ref c_Stay) = some false
  sb_Stay_list : PySem.W.subIn K (.ref c_Stay) (.type "list") = some false
  kit_list_Stay : PySem.W.kitOne K (.type "list") (.ref c_Stay) = some false
  g__law_pen : mg "_law_pen" = some (.ref f__law_pen)
  F__law_pen : Fun K "_law_pen" "_law_pen" s__law_pen f__law_pen d__law_pen
  bd__law_pen : Binds K d__law_pen ["script"] []
  g__law_draw : mg "_law_draw" = some (.ref f__law_draw)
  F__law_draw : Fun K "_law_draw" "_law_draw" s__law_draw f__law_draw d__law_draw
  bd__law_draw : Binds K d__law_draw ["pen", "many"] []
  g__law_pick : mg "_law_pick" = some (.ref f__law_pick)
  F__law_pick : Fun K "_law_pick" "_law_pick" s__law_pick f__law_pick d__law_pick
  bd__law_pick : Binds K d__law_pick ["pen", "some"] []
  g__law_heard : mg "_law_heard" = some (.ref f__law_heard)
  F__law_heard : Fun K "_law_heard" "_law_heard" s__law_heard f__law_heard d__law_heard
  bd__law_heard : Binds K d__law_heard ["ask"] []
  g__law_is_count : mg "_law_is_count" = some (.ref f__law_is_count)
  F__law_is_count : Fun K "_law_is_count" "_law_is_count" s__law_is_count f__law_is_count d__law_is_count
  bd__law_is_count : Binds K d__law_is_count ["word", "figures"] []
  g__law_is_text : mg "_law_is_text" = some (.ref f__law_is_text)
  F__law_is_text : Fun K "_law_is_text" "_law_is_text" s__law_is_text f__law_is_text d__law_is_text
  bd__law_is_text : Binds K d__law_is_text ["line"] []
  g__law_bent : mg "_law_bent" = some (.ref f__law_bent)
  F__law_bent : Fun K "_law_bent" "_law_bent" s__law_bent f__law_bent d__law_bent
  bd__law_bent : Binds K d__law_bent ["pen", "line"] []
  g_law : mg "law" = some (.ref f_law)
  F_law : Fun K "law" "law" s_law f_law d_law
  bd_law : Binds K d_law ["script"] []
  b_isinstance : mg "isinstance" = none
  b_int : mg "int" = none
  b_bool : mg "bool" = none
  b_len : mg "len" = none
  b_tuple : mg "tuple" = none
  b_range : mg "range" = none
  b_list : mg "list" = none
  b_abs : mg "abs" = none
  b_str : mg "str" = none
  g_LAST_DAY : ∃ t, mg "LAST_DAY" = some (.int 999999999999 t)
  g_DIGITS : ∃ t, mg "DIGITS" = some (.int 12 t)
  cv_Stay_MOST : ∃ u, CVal K c_Stay (.type "type") "MOST" (.int 400) u
  code_law : d_law.code = .ref cc_law
  mk_Stay : Mk K c_Stay f_Stay___init__
  eq_Stay : EqM K c_Stay f_Stay___eq__
  sm_Stay___str__ : SpM K c_Stay f_Stay___str__ "__str__"
end NN

open AW L2
-- what is known at an address
local macro_rules | `(tactic| walk_at "kn") => `(tactic| first
  | assumption
  | exact upd_same
  | ((with_reducible refine' keep2 ?h1 ?h2); (case h1 => first | assumption | (exact Ne.symm (by assumption))); (case h2 => walk_at "kn"))
  | ((with_reducible refine' know ?h1 ?h2); (case h1 => assumption); (case h2 => walk_at "kn"))
  | ((with_reducible refine' Ext.know ?h1 ?h2); (case h1 => assumption); (case h2 => walk_at "kn")))
-- one step
local macro_rules | `(tactic| walk_at "w1") => `(tactic| first
  | ((with_reducible refine' w_var ?hv ?_); (case hv => rfl))
  | with_reducible refine' w_c ?_
  | with_reducible refine' w_op ?_
  | with_reducible refine' r_I0 ?_
  | with_reducible refine' w_nil ?_
  | with_reducible refine' w_cons ?_
  | with_reducible refine' w_cb ?_
  | with_reducible refine' r_int1 ?_
  | with_reducible refine' r_int1b ?_
  | with_reducible refine' r_abs ?_
  | ((with_reducible refine' r_lenL ?h1 ?_); (case h1 => walk_at "kn"))
  | ((with_reducible refine' r_lenT ?h1 ?_); (case h1 => walk_at "kn"))
  | ((with_reducible refine' r_neV ?h1 ?_); (case h1 => rfl))
  | ((with_reducible refine' r_eqV ?h1 ?_); (case h1 => rfl))
  | ((with_reducible refine' r_eq ?h1 ?_); (case h1 => rfl))
  | ((with_reducible refine' r_ne ?h1 ?_); (case h1 => rfl))
  | ((with_reducible refine' r_ixL ?h1 ?h2 ?_); (case h1 => walk_at "kn"); (case h2 => rfl))
  | ((with_reducible refine' r_ixT ?h1 ?h2 ?_); (case h1 => walk_at "kn"); (case h2 => rfl))
  | with_reducible refine' w_test ?_
  | with_reducible refine' w_B ?_
  | with_reducible refine' w_un ?_
  | with_reducible refine' r_U ?_
  | with_reducible refine' w_and ?_
  | with_reducible refine' w_or ?_
  | with_reducible refine' w_not ?_
  | with_reducible refine' w_andV ?_
  | with_reducible refine' w_orV ?_
  | with_reducible refine' w_notV ?_
  | with_reducible refine' w_ifE ?_
  | with_reducible refine' r_isNt ?_
  | with_reducible refine' r_isNr ?_
  | with_reducible refine' w_chain ?_
  | with_reducible refine' w_tupRg ?_
  | with_reducible refine' w_joined ?_
  | with_reducible refine' w_js0 ?_
  | with_reducible refine' w_js ?_
  | with_reducible refine' w_cval ?_
  | with_reducible refine' s_fld ?_
  | with_reducible refine' w_tup ?_
  | with_reducible refine' w_lst ?_
  | with_reducible refine' w_sl ?_
  | with_reducible refine' w_part ?_
  | with_reducible refine' w_noPart ?_
  | with_reducible refine' s_seq ?_
  | with_reducible refine' s_next ?_
  | with_reducible refine' s_ret ?_
  | with_reducible refine' s_retN ?_
  | with_reducible refine' s_drop ?_
  | with_reducible refine' s_brk ?_
  | with_reducible refine' s_cont ?_
  | with_reducible refine' s_set ?_
  | with_reducible refine' s_asg ?_
  | with_reducible refine' s_par ?_
  | ((with_reducible refine' s_aug ?h1 ?_); (case h1 => rfl))
  | with_reducible refine' g_name ?_
  | with_reducible refine' g_cons ?_
  | with_reducible refine' g_nil ?_
  | with_reducible refine' g_set ?_
  | with_reducible refine' both_t ?_
  | with_reducible refine' both_f ?_
  | with_reducible refine' both_nt ?_
  | with_reducible refine' both_nf ?_
  | with_reducible refine' bor_t ?_
  | with_reducible refine' bor_f ?_
  | with_reducible refine' bor_nt ?_
  | with_reducible refine' bor_nf ?_
  | with_reducible refine' ⟨_, rfl, ?_⟩)
local macro_rules | `(tactic| walk_at "w") => `(tactic| repeat (first | walk_at "w1" | dsimp only))
local macro_rules | `(tactic| walk_at "if") => `(tactic| ((with_reducible refine' s_if ?_); walk_at "w"; refine ⟨fun hb => ?_, fun hb => ?_⟩))
local macro_rules | `(tactic| walk_at "wi") => `(tactic| repeat (first | walk_at "w1" | with_reducible refine' s_if ?_ | dsimp only))

namespace NN
open PySem PySem.Spec PyProof.Rows L2 LamX AW ClX
/-! ### promises -/
/-- a value that is no whole number -/
def Odd (K : PySem.W.Frag) (kn : Hp) (x : V) : Prop := ∃ t bi, TyX K kn x t ∧ PySem.W.kitOne K t (.type "int") = some bi ∧ (bi = true → PySem.W.kitOne K t (.type "bool") = some true)
def bWhole (K : PySem.W.Frag) : List V → Hp → AK → AXK → Prop := fun vs kn Q _ => ∃ x, vs = [x] ∧ ((∃ i, x = .int i ∧ Q (.bl true) kn) ∨ (Odd K kn x ∧ Q (.bl false) kn))
def bFrom (K : PySem.W.Frag) : List V → Hp → AK → AXK → Prop := fun vs kn Q _ => ∃ x lo hi, vs = [x, .int lo, .int hi] ∧ ((∃ i, x = .int i ∧ Q (.bl (decide (lo ≤ i) && decide (i ≤ hi))) kn) ∨ (Odd K kn x ∧ Q (.bl false) kn))
abbrev lastDay : Int := 999999999999
def bDay (K : PySem.W.Frag) : List V → Hp → AK → AXK → Prop := fun vs kn Q _ => ∃ x, vs = [x] ∧ ((∃ i, x = .int i ∧ Q (.bl (decide (-lastDay ≤ i) && decide (i ≤ lastDay))) kn) ∨ (Odd K kn x ∧ Q (.bl false) kn))
section
variable {K : PySem.W.Frag}
theorem mo_whole : MonoX (bWhole K) := by
  rintro vs kn Q R E F h1 h2 ⟨x, e, ⟨i, e2, h⟩ | ⟨o, h⟩⟩
  · exact ⟨x, e, .inl ⟨i, e2, h1 _ _ h⟩⟩
  · exact ⟨x, e, .inr ⟨o, h1 _ _ h⟩⟩
theorem mo_from : MonoX (bFrom K) := by
  rintro vs kn Q R E F h1 h2 ⟨x, lo, hi, e, ⟨i, e2, h⟩ | ⟨o, h⟩⟩
  · exact ⟨x, lo, hi, e, .inl ⟨i, e2, h1 _ _ h⟩⟩
  · exact ⟨x, lo, hi, e, .inr ⟨o, h1 _ _ h⟩⟩
theorem mo_day : MonoX (bDay K) := by
  rintro vs kn Q R E F h1 h2 ⟨x, e, ⟨i, e2, h⟩ | ⟨o, h⟩⟩
  · exact ⟨x, e, .inl ⟨i, e2, h1 _ _ h⟩⟩
  · exact ⟨x, e, .inr ⟨o, h1 _ _ h⟩⟩
theorem odd_ext {kn kn' : Hp} {x : V} (e : Ext kn kn') (h : Odd K kn x) : Odd K kn' x := by
  obtain ⟨t, bi, a, b, d⟩ := h
  exact ⟨t, bi, tyx_ext e a, b, d⟩
end
section
variable {P : Program} {w : World} {K : PySem.W.Frag} {mg : Str → Option Value} {base : Heap}
theorem ok_is_whole (T : Tx K mg) : FnOk P w K mg base CX0 1 T.f_is_whole T.d_is_whole ["value"] (liftX (bWhole K)) := by
  refine T.F_is_whole.ok sc_is_whole (fun vs H Q E h => ?_) (fun cdv A outer s H vs Q E hr h => ?_)
  · obtain ⟨kn, _, _, x, rfl, _⟩ := h
    rfl
  · obtain ⟨kn, e, nt, x, rfl, h⟩ := h
    refine ⟨_, (pss_one (ps_ret (pe_and (pe_callB call_isi (by rfl) T.b_isinstance (by decide +kernel) (pa_cons (pv 0) (pa_cons (pe_bltn (v := .ty "int") (u := .type "int") (by rfl) T.b_int (by decide +kernel) rfl) pa_nil))) (pe_one (pe_not (pe_callB call_isi (by rfl) T.b_isinstance (by decide +kernel) (pa_cons (pv 0) (pa_cons (pe_bltn (v := .ty "bool") (u := .type "bool") (by rfl) T.b_bool (by decide +kernel) rfl) pa_nil)))))))), ?_⟩
    refine body_of (pure_start e nt) ?_
    walk_at "wi"
    rcases h with ⟨i, rfl, h⟩ | ⟨⟨t, bi, ty, e1, e2⟩, h⟩
    · refine r_isi (.ty _) (.base (.int i)) (kit_ty rfl) ?_
      walk_at "wi"
      refine r_isi (.ty _) (.base (.int i)) (kit_ty rfl) ?_
      walk_at "wi"
      exact h 0
    · refine r_isi (.ty _) ty e1 ?_
      walk_at "wi"
      refine ⟨fun hb => ?_, fun hb => h 0⟩
      walk_at "wi"
      refine r_isi (.ty _) ty (e2 hb) ?_
      walk_at "wi"
      exact h 0
theorem ok_is_from (T : Tx K mg) : FnOk P w K mg base CX0 2 T.f_is_from T.d_is_from ["value", "least", "most"] (liftX (bFrom K)) := by
  refine T.F_is_from.ok sc_is_from (fun vs H Q E h => ?_) (fun cdv A outer s H vs Q E hr h => ?_)
  · obtain ⟨kn, _, _, x, lo, hi, rfl, _⟩ := h
    rfl
  · obtain ⟨kn, e, nt, x, lo, hi, rfl, h⟩ := h
    refine ⟨_, (pss_one (ps_ret (pe_and (pe_call (ok_is_whole T) (hr.mono (by decide)) (by rfl) T.g_is_whole T.F_is_whole.kp T.bd_is_whole .nil pass0 (pa_cons (pv 0) pa_nil)) (pe_one (pe_chain op_le op_le (pv 1) (pv 0) (pv 2)))))), ?_⟩
    refine body_of (pure_start e nt) ?_
    walk_at "wi"
    refine w_call mo_whole err_no ?_
    walk_at "wi"
    refine ⟨_, rfl, ?_⟩
    rcases h with ⟨i, rfl, h⟩ | ⟨o, h⟩
    · refine .inl ⟨i, rfl, ?_⟩
      walk_at "wi"
      refine ⟨fun hb => ?_, fun hb => ?_⟩
      · walk_at "wi"
        rw [hb] at h
        exact h 0
      · rw [hb] at h
        exact h 0
    · refine .inr ⟨o, ?_⟩
      walk_at "wi"
      exact h 0
theorem ok_is_day (T : Tx K mg) : FnOk P w K mg base CX0 3 T.f_is_day T.d_is_day ["value"] (liftX (bDay K)) := by
  refine T.F_is_day.ok sc_is_day (fun vs H Q E h => ?_) (fun cdv A outer s H vs Q E hr h => ?_)
  · obtain ⟨kn, _, _, x, rfl, _⟩ := h
    rfl
  · obtain ⟨kn, e, nt, x, rfl, h⟩ := h
    refine ⟨_, (pss_one (ps_ret (pe_call (ok_is_from T) (hr.mono (by decide)) (by rfl) T.g_is_from T.F_is_from.kp T.bd_is_from .nil pass0 (pa_cons (pv 0) (pa_cons (pe_un un_neg (pe_glob (v := .int 999999999999) (by rfl) (Classical.choose_spec T.g_LAST_DAY) ⟨_, rfl⟩)) (pa_cons (pe_glob (v := .int 999999999999) (by rfl) (Classical.choose_spec T.g_LAST_DAY) ⟨_, rfl⟩) pa_nil)))))), ?_⟩
    refine body_of (pure_start e nt) ?_
    walk_at "wi"
    refine w_call mo_from err_no ?_
    walk_at "wi"
    refine ⟨_, _, _, rfl, ?_⟩
    rcases h with ⟨i, rfl, h⟩ | ⟨o, h⟩
    · exact .inl ⟨i, rfl, h 0⟩
    · exact .inr ⟨o, h 0⟩
end

end NN

namespace NN
open PySem PySem.Spec PyProof.Rows L2 LamX AW ClX
/-! ### the stay -/
def isDay (i : Int) : Prop := -lastDay ≤ i ∧ i ≤ lastDay
def NotDay (K : PySem.W.Frag) (kn : Hp) (x : V) : Prop := (∃ i, x = .int i ∧ ¬ isDay i) ∨ Odd K kn x
abbrev stayF (f e : Int) (q : Addr) : List (Str × V) := [("first", .int f), ("after", .int e), ("_nights", .ref q)]
structure StayAt (C : Addr) (kn : Hp) (s : Addr) (f e : Int) : Prop where
  at_ : ∃ dx q, kn s = some (.ins C dx (stayF f e q)) ∧ kn q = some (.tup (rgV f e))
  d1 : isDay f
  d2 : isDay e
  lt : f < e
  most : e ≤ f + 400
abbrev xdPart (kn : Hp) (d : Addr) (p : Str) : Hp := upd kn d (.xd [("part", .str p)])
def bInit (K : PySem.W.Frag) (C B : Addr) : List V → Hp → AK → AXK → Prop := fun vs kn Q E => ∃ a dx x y, vs = [.ref a, x, y] ∧ kn a = some (.ins C dx []) ∧
  ((∃ f e, x = .int f ∧ y = .int e ∧ isDay f ∧ isDay e ∧ f < e ∧ e ≤ f + 400 ∧ ∀ q, kn q = none → Q .non (upd (upd kn q (.tup (rgV f e))) a (.ins C dx (stayF f e q)))) ∨
   (NotDay K kn x ∧ ∀ d, kn d = none → E (.ref B) (some d) (xdPart kn d "first")) ∨
   (∃ f, x = .int f ∧ isDay f ∧ (NotDay K kn y ∨ ∃ e, y = .int e ∧ isDay e ∧ ¬(f < e ∧ e ≤ f + 400)) ∧ ∀ d, kn d = none → E (.ref B) (some d) (xdPart kn d "after")))
section
variable {K : PySem.W.Frag} {C B : Addr}
theorem rg_day {f e : Int} (df : isDay f) (de : isDay e) (l : e ≤ f + 400) : RgOk f e := by
  have h1 : -999999999999 ≤ f ∧ f ≤ 999999999999 := df
  have h2 : -999999999999 ≤ e ∧ e ≤ 999999999999 := de
  exact ⟨by omega, by omega, by omega, by omega, by omega⟩
theorem mo_init : MonoX (bInit K C B) := by
  rintro vs kn Q R E F h1 h2 ⟨a, dx, x, y, e, ha, ⟨f, e', b1, b2, b3, b4, b5, b6, h⟩ | ⟨b, h⟩ | ⟨f, b1, b2, b3, h⟩⟩
  · exact ⟨a, dx, x, y, e, ha, .inl ⟨f, e', b1, b2, b3, b4, b5, b6, fun q hq => h1 _ _ (h q hq)⟩⟩
  · exact ⟨a, dx, x, y, e, ha, .inr (.inl ⟨b, fun d hd => h2 _ _ _ (h d hd)⟩)⟩
  · exact ⟨a, dx, x, y, e, ha, .inr (.inr ⟨f, b1, b2, b3, fun d hd => h2 _ _ _ (h d hd)⟩)⟩
theorem upd3 {kn : Hp} {a q : Addr} {o1 o2 o3 o4 : HO} : upd (upd (upd (upd kn a o1) a o2) q o3) a o4 = upd (upd kn q o3) a o4 := by
  funext x
  by_cases h1 : x = a
  · rw [h1, upd_same, upd_same]
  · rw [upd_ne h1, upd_ne h1]
    by_cases h2 : x = q
    · rw [h2, upd_same, upd_same]
    · rw [upd_ne h2, upd_ne h1, upd_ne h1, upd_ne h2]
end
section
variable {P : Program} {w : World} {K : PySem.W.Frag} {mg : Str → Option Value} {base : Heap}
theorem ok_BadStay___init__ (T : Tx K mg) : FnOk P w K mg base CX0 1 T.f_BadStay___init__ T.d_BadStay___init__ ["self", "part"] (spX1 K "part") := by
  refine T.F_BadStay___init__.ok sc_BadStay___init__ (fun vs H Q E h => ?_) (fun cdv A outer s H vs Q E hr h => ?_)
  · obtain ⟨a, C, y, rfl, _⟩ := h
    rfl
  · obtain ⟨a, C, y, rfl, oc, hf, ha, h⟩ := h
    refine ⟨_, (pss_one (ps_ost (pv 0) (pv 1))), ?_⟩
    refine ⟨_, rfl, _, rfl, a, C, rfl, oc, hf, .inl ⟨ha, h⟩⟩
theorem w_day {kn : Hp} {x : V} {Q : AK} {E : AXK} (h : (∃ i, x = .int i ∧ isDay i ∧ Q (.bl true) kn) ∨ (NotDay K kn x ∧ Q (.bl false) kn)) : bDay K [x] kn Q E := by
  rcases h with ⟨i, e, d, q⟩ | ⟨⟨i, e, d⟩ | o, q⟩
  · refine ⟨x, rfl, .inl ⟨i, e, ?_⟩⟩
    rw [decide_eq_true d.1, decide_eq_true d.2]
    exact q
  · refine ⟨x, rfl, .inl ⟨i, e, ?_⟩⟩
    have z : (decide (-lastDay ≤ i) && decide (i ≤ lastDay)) = false := by
      cases y : (decide (-lastDay ≤ i) && decide (i ≤ lastDay)) with
      | false => rfl
      | true =>
        rw [Bool.and_eq_true] at y
        exact absurd ⟨of_decide_eq_true y.1, of_decide_eq_true y.2⟩ d
    rw [z]
    exact q
  · exact ⟨x, rfl, .inr ⟨o, q⟩⟩
theorem ok_Stay___init__ (T : Tx K mg) : FnOk P w K mg base (L2N.CX P w) 4 T.f_Stay___init__ T.d_Stay___init__ ["self", "first", "after"] (liftX (bInit K T.c_Stay T.c_BadStay)) := by
  refine T.F_Stay___init__.okXN sc_Stay___init__ (fun vs H Q E h => ?_) (fun cdv A outer s H vs Q E hr h => ?_)
  · obtain ⟨kn, _, _, a, dx, x, y, rfl, _⟩ := h
    rfl
  · obtain ⟨kn, ex, nt, a, dx, x, y, rfl, ha, h⟩ := h
    refine ⟨_, (pss_cons (ps_if (pt_not (pt_val (pe_call (ok_is_day T) (hr.mono (by decide)) (by rfl) T.g_is_day T.F_is_day.kp T.bd_is_day .nil pass0 (pa_cons (pv 1) pa_nil))))
       (pss_one (L2N.ps_raise rfl (L2N.takes_of rfl rfl rfl rfl) (pmkN_oex T.x_BadStay T.fi_BadStay___init__ T.ti_BadStay (ok_BadStay___init__ T) (hr.mono (by decide)) T.bd_BadStay___init__ .nil pass0 (by rfl) T.g_BadStay (pa_cons pe_str pa_nil))))
       pss_nil)
       (pss_cons (ps_if (PW.pt (pw_or (pt_not (pt_val (pe_call (ok_is_day T) (hr.mono (by decide)) (by rfl) T.g_is_day T.F_is_day.kp T.bd_is_day .nil pass0 (pa_cons (pv 2) pa_nil)))) (pw_or1 (pt_not (pt_chain op_lt op_le (pv 1) (pv 2) (pe_op op_add (pv 1) (pe_cval (pe_glob (v := .ref T.c_Stay) (by rfl) T.g_Stay rfl))))))))
       (pss_one (L2N.ps_raise rfl (L2N.takes_of rfl rfl rfl rfl) (pmkN_oex T.x_BadStay T.fi_BadStay___init__ T.ti_BadStay (ok_BadStay___init__ T) (hr.mono (by decide)) T.bd_BadStay___init__ .nil pass0 (by rfl) T.g_BadStay (pa_cons pe_str pa_nil))))
       pss_nil)
       (pss_cons (ps_fld (pv 0) (pv 1) rfl)
       (pss_cons (ps_fld (pv 0) (pv 2) rfl)
       (pss_one (ps_fld (pv 0) (pe_tupRg rfl (by rfl) T.b_tuple (prg_2 (by rfl) T.b_range (pv 1) (pv 2))) rfl)))))), ?_⟩
    refine body_of (pure_start ex nt) ?_
    walk_at "wi"
    refine w_call mo_day err_no ?_
    walk_at "wi"
    refine w_day ?_
    obtain ⟨mu, hmu⟩ := T.cv_Stay_MOST
    rcases h with ⟨f, e, rfl, rfl, df, de, l1, l2, h⟩ | ⟨nd, h⟩ | ⟨f, rfl, df, nd, h⟩
    · refine .inl ⟨f, rfl, df, ?_⟩
      walk_at "wi"
      refine w_call mo_day err_no ?_
      walk_at "wi"
      refine w_day (.inl ⟨e, rfl, de, ?_⟩)
      walk_at "wi"
      refine ⟨fun hb => ?_, fun hb => absurd (decide_eq_true l1) (by rw [hb]; exact Bool.false_ne_true)⟩
      walk_at "wi"
      refine ⟨_, _, _, _, rfl, T.cr_Stay, hmu, ?_⟩
      walk_at "wi"
      rw [decide_eq_true l2]
      walk_at "wi"
      refine ⟨_, _, _, _, rfl, ha, T.cl_Stay, T.na_Stay_first, by decide, ?_⟩
      walk_at "wi"
      refine ⟨_, _, _, _, rfl, upd_same, T.cl_Stay, T.na_Stay_after, (show 1 < 1000 by decide), ?_⟩
      walk_at "wi"
      refine ⟨_, _, rfl, rfl, (rg_day df de l2), fun q hq => ?_⟩
      walk_at "wi"
      refine ⟨_, _, _, _, rfl, keep2 (ne_of_none upd_same hq) upd_same, T.cl_Stay, T.na_Stay__nights, (show 2 < 1000 by decide), ?_⟩
      have hq2 : kn q = none := by
        by_cases z : q = a
        · rw [z, upd_same] at hq; cases hq
        · rw [upd_ne z, upd_ne z] at hq; exact hq
      rw [upd3]
      exact h q hq2 0
    · refine .inr ⟨nd, ?_⟩
      walk_at "wi"
      refine s_raise1 T.x_BadStay T.nx_BadStay_part err_body ?_
      walk_at "wi"
      exact fun d hd => h d hd 0
    · refine .inl ⟨f, rfl, df, ?_⟩
      walk_at "wi"
      refine w_call mo_day err_no ?_
      walk_at "wi"
      refine w_day ?_
      rcases nd with nd | ⟨e, rfl, de, ne⟩
      · refine .inr ⟨nd, ?_⟩
        walk_at "wi"
        refine s_raise1 T.x_BadStay T.nx_BadStay_part err_body ?_
        walk_at "wi"
        exact fun d hd => h d hd 0
      · refine .inl ⟨e, rfl, de, ?_⟩
        walk_at "wi"
        refine ⟨fun hb => ?_, fun hb => ?_⟩
        · walk_at "wi"
          refine ⟨_, _, _, _, rfl, T.cr_Stay, hmu, ?_⟩
          walk_at "wi"
          rw [decide_eq_false (fun z => ne ⟨of_decide_eq_true hb, z⟩)]
          walk_at "wi"
          refine s_raise1 T.x_BadStay T.nx_BadStay_part err_body ?_
          walk_at "wi"
          exact fun d hd => h d hd 0
        · walk_at "wi"
          refine s_raise1 T.x_BadStay T.nx_BadStay_part err_body ?_
          walk_at "wi"
          exact fun d hd => h d hd 0
end

end NN

namespace NN
open PySem PySem.Spec PyProof.Rows L2 LamX AW ClX
/-! ### the stay's methods -/
theorem int_eq {i j : Int} : decide (V.int i = V.int j) = decide (i = j) := decide_eq_decide.mpr ⟨V.int.inj, congrArg _⟩
theorem free_ext {kn kn' : Hp} {q : Addr} (x : Ext kn kn') (h : kn' q = none) : kn q = none := by
  cases z : kn q with
  | none => rfl
  | some o => rw [x _ _ z] at h; cases h
theorem log_small {i : Int} (h1 : -(10 ^ 13) < i) (h2 : i < 10 ^ 13) : i.natAbs.log2 < 1920 := by
  by_cases z : i.natAbs = 0
  · rw [z]; decide
  · have a : i.natAbs < 2 ^ 44 := by omega
    exact Nat.lt_trans ((Nat.log2_lt z).mpr a) (by decide)
theorem len_small {i : Int} (h1 : -(10 ^ 13) < i) (h2 : i < 10 ^ 13) : (Str.ofString (toString i)).length ≤ 14 := by
  rw [PySem.ofString_length]
  exact int_text_length_le10 (k := 13) (by decide) (by omega)
abbrev NewS (C : Addr) (kn : Hp) (f e : Int) (Q : AK) : Prop := ∀ x kn', Ext kn kn' → kn x = none → StayAt C kn' x f e → Q (.ref x) kn'
abbrev BadS (B : Addr) (kn : Hp) (p : Str) (E : AXK) : Prop := ∀ d kn', Ext kn kn' → kn d = none → kn' d = some (.xd [("part", .str p)]) → E (.ref B) (some d) kn'
def MakeOr (C B : Addr) (kn : Hp) (f e : Int) (Q : AK) (E : AXK) : Prop :=
  (isDay f ∧ isDay e ∧ f < e ∧ e ≤ f + 400 ∧ NewS C kn f e Q) ∨ (¬ isDay f ∧ BadS B kn "first" E) ∨ (isDay f ∧ (¬ isDay e ∨ (isDay e ∧ ¬(f < e ∧ e ≤ f + 400))) ∧ BadS B kn "after" E)
theorem mo_make {C B : Addr} {kn : Hp} {f e : Int} {Q R : AK} {E F : AXK} (h1 : ∀ v k, Q v k → R v k) (h2 : ∀ cls d k, E cls d k → F cls d k) (h : MakeOr C B kn f e Q E) : MakeOr C B kn f e R F := by
  rcases h with ⟨a, b, c, d, h⟩ | ⟨a, h⟩ | ⟨a, b, h⟩
  · exact .inl ⟨a, b, c, d, fun x k z1 z2 z3 => h1 _ _ (h x k z1 z2 z3)⟩
  · exact .inr (.inl ⟨a, fun x k z1 z2 z3 => h2 _ _ _ (h x k z1 z2 z3)⟩)
  · exact .inr (.inr ⟨a, b, fun x k z1 z2 z3 => h2 _ _ _ (h x k z1 z2 z3)⟩)
theorem StayAt.ext {C : Addr} {kn kn' : Hp} {s : Addr} {f e : Int} (x : Ext kn kn') (h : StayAt C kn s f e) : StayAt C kn' s f e := by
  obtain ⟨⟨dx, q, a, b⟩, c1, c2, c3, c4⟩ := h
  exact ⟨⟨dx, q, x _ _ a, x _ _ b⟩, c1, c2, c3, c4⟩
theorem ext_new {kn : Hp} {q : Addr} {o : HO} (h : kn q = none) : Ext kn (upd kn q o) := fun x u e => know h e
theorem ext_tr {a b c : Hp} (h : Ext a b) (k : Ext b c) : Ext a c := fun x o e => k x o (h x o e)
/-- Stay(f, e) -/
theorem w_stay {K : PySem.W.Frag} {c : Cw} {kn : Hp} {n : Nat} {σ : L2.St} {Q : V → Hp → Nat → Prop} {E : XK} {EA : EAK} {C B : Addr} {t : TA} (hE : ErrOk c EA E)
    (h : W c (t σ) kn n fun vs kn1 n1 => ∃ f e, vs = [.int f, .int e] ∧ MakeOr C B kn1 f e (fun v k => Q v k n1) (fun cls d k => EA cls d k n1)) : W c (tMake C (liftX (bInit K C B)) [] E t σ) kn n Q := by
  refine w_make mo_init hE (h.mono fun vs kn1 n1 hv => ?_)
  obtain ⟨f, e, rfl, hv⟩ := hv
  intro x dx hx hdx hne
  have hx2 : upd kn1 dx (.own x) x = none := by rw [upd_ne (Ne.symm hne)]; exact hx
  have ex : Ext kn1 (upd (upd kn1 dx (.own x)) x (.ins C dx [])) := ext_tr (ext_new hdx) (ext_new hx2)
  refine ⟨x, dx, _, _, rfl, upd_same, ?_⟩
  rcases hv with ⟨a, b, l, m, h⟩ | ⟨a, h⟩ | ⟨a, b, h⟩
  · refine .inl ⟨f, e, rfl, rfl, a, b, l, m, fun q hq => ⟨rfl, h x _ ?_ hx ⟨⟨dx, q, upd_same, ?_⟩, a, b, l, m⟩⟩⟩
    · intro y o hy
      have y1 : y ≠ x := fun z => by rw [z, hx] at hy; cases hy
      have y2 : y ≠ dx := fun z => by rw [z, hdx] at hy; cases hy
      have y3 : y ≠ q := fun z => by rw [← z, upd_ne y1, upd_ne y2, hy] at hq; cases hq
      rw [upd_ne y1, upd_ne y3, upd_ne y1, upd_ne y2]
      exact hy
    · have y1 : q ≠ x := fun z => by rw [z, upd_same] at hq; cases hq
      rw [upd_ne y1, upd_same]
  · refine .inr (.inl ⟨.inl ⟨f, rfl, a⟩, fun d hd => h d _ (ext_tr ex (ext_new hd)) ?_ upd_same⟩)
    cases z : kn1 d with
    | none => rfl
    | some o => rw [ex _ _ z] at hd; cases hd
  · refine .inr (.inr ⟨f, rfl, a, ?_, fun d hd => h d _ (ext_tr ex (ext_new hd)) ?_ upd_same⟩)
    · rcases b with b | b
      · exact .inl (.inl ⟨e, rfl, b⟩)
      · exact .inr ⟨e, rfl, b⟩
    · cases z : kn1 d with
      | none => rfl
      | some o => rw [ex _ _ z] at hd; cases hd
/-- self.first, self.after, self._nights -/
theorem w_first {K : PySem.W.Frag} {c : Cw} {kn : Hp} {n i : Nat} {σ : L2.St} {Q : V → Hp → Nat → Prop} {C s : Addr} {f e : Int} (cl : Cls K C) (na : NoAttr K C "first") (hv : σ[i]? = some (some (.ref s))) (h : StayAt C kn s f e) (q : Q (.int f) kn n) : W c (tFld K (tVar i) "first" σ) kn n Q := by
  obtain ⟨⟨dx, p, a, b⟩, _⟩ := h
  exact w_fld (w_var hv ⟨_, _, _, _, _, rfl, a, cl, na, rfl, q⟩)
theorem w_after {K : PySem.W.Frag} {c : Cw} {kn : Hp} {n i : Nat} {σ : L2.St} {Q : V → Hp → Nat → Prop} {C s : Addr} {f e : Int} (cl : Cls K C) (na : NoAttr K C "after") (hv : σ[i]? = some (some (.ref s))) (h : StayAt C kn s f e) (q : Q (.int e) kn n) : W c (tFld K (tVar i) "after" σ) kn n Q := by
  obtain ⟨⟨dx, p, a, b⟩, _⟩ := h
  exact w_fld (w_var hv ⟨_, _, _, _, _, rfl, a, cl, na, rfl, q⟩)
theorem w_nights {K : PySem.W.Frag} {c : Cw} {kn : Hp} {n i : Nat} {σ : L2.St} {Q : V → Hp → Nat → Prop} {C s : Addr} {f e : Int} (cl : Cls K C) (na : NoAttr K C "_nights") (hv : σ[i]? = some (some (.ref s))) (h : StayAt C kn s f e) (q : ∀ p, kn p = some (.tup (rgV f e)) → Q (.ref p) kn n) : W c (tFld K (tVar i) "_nights" σ) kn n Q := by
  obtain ⟨⟨dx, p, a, b⟩, _⟩ := h
  exact w_fld (w_var hv ⟨_, _, _, _, _, rfl, a, cl, na, rfl, q p b⟩)
-- a stay that is known
local macro_rules | `(tactic| walk_at "st") => `(tactic| first
  | assumption
  | ((with_reducible refine' StayAt.ext ?h1 ?h2); (case h1 => assumption); (case h2 => walk_at "st"))
  | ((with_reducible refine' StayAt.ext ?h1 ?h2); (case h1 => exact ext_new (by assumption)); (case h2 => walk_at "st")))
local macro_rules | `(tactic| walk_at "w2") => `(tactic| first
  | ((with_reducible refine' w_first ?h1 ?h2 ?h3 ?h4 ?_); (case h3 => rfl); (case h4 => walk_at "st"); (case h1 => assumption); (case h2 => assumption))
  | ((with_reducible refine' w_after ?h1 ?h2 ?h3 ?h4 ?_); (case h3 => rfl); (case h4 => walk_at "st"); (case h1 => assumption); (case h2 => assumption))
  | ((with_reducible refine' w_nights ?h1 ?h2 ?h3 ?h4 ?_); (case h3 => rfl); (case h4 => walk_at "st"); (case h1 => assumption); (case h2 => assumption)))
local macro_rules | `(tactic| walk_at "w") => `(tactic| repeat (first | walk_at "w1" | walk_at "w2" | dsimp only))
local macro_rules | `(tactic| walk_at "wi") => `(tactic| repeat (first | walk_at "w1" | walk_at "w2" | with_reducible refine' s_if ?_ | dsimp only))

def bEq (K : PySem.W.Frag) (C : Addr) : List V → Hp → AK → AXK → Prop := fun vs kn Q _ => ∃ s f e y, vs = [.ref s, y] ∧ StayAt C kn s f e ∧
  ((∃ s' f' e', y = .ref s' ∧ StayAt C kn s' f' e' ∧ Q (.bl (decide (f = f') && decide (e = e'))) kn) ∨ (∃ t, TyX K kn y t ∧ PySem.W.kitOne K t (.ref C) = some false ∧ Q (.bl false) kn))
def stayT (f e : Int) : Str := ((Str.empty ++ (toString f : String)) ++ "+") ++ (toString (e - f) : String)
def bStr (C : Addr) : List V → Hp → AK → AXK → Prop := fun vs kn Q _ => ∃ s f e, vs = [.ref s] ∧ StayAt C kn s f e ∧ Q (.str (stayT f e)) kn
section
variable {K : PySem.W.Frag} {C B : Addr}
theorem mo_str : MonoX (bStr C) := by
  rintro vs kn Q R E F h1 h2 ⟨s, f, e, a, b, h⟩
  exact ⟨s, f, e, a, b, h1 _ _ h⟩
theorem mo_eq : MonoX (bEq K C) := by
  rintro vs kn Q R E F h1 h2 ⟨s, f, e, y, a, b, ⟨s', f', e', c, d, h⟩ | ⟨t, c, d, h⟩⟩
  · exact ⟨s, f, e, y, a, b, .inl ⟨s', f', e', c, d, h1 _ _ h⟩⟩
  · exact ⟨s, f, e, y, a, b, .inr ⟨t, c, d, h1 _ _ h⟩⟩
end
section
variable {P : Program} {w : World} {K : PySem.W.Frag} {mg : Str → Option Value} {base : Heap}
theorem ok_Stay___eq__ (T : Tx K mg) : FnOk P w K mg base CX0 1 T.f_Stay___eq__ T.d_Stay___eq__ ["self", "other"] (liftX (bEq K T.c_Stay)) := by
  refine T.F_Stay___eq__.ok sc_Stay___eq__ (fun vs H Q E h => ?_) (fun cdv A outer s H vs Q E hr h => ?_)
  · obtain ⟨kn, _, _, a, f, e, y, rfl, _⟩ := h
    rfl
  · obtain ⟨kn, ex, nt, a, f, e, y, rfl, st, h⟩ := h
    have cS := T.cl_Stay; have nF := T.na_Stay_first; have nA := T.na_Stay_after; have nN := T.na_Stay__nights
    refine ⟨_, (pss_one (ps_ret (pe_and (pe_callB call_isi (by rfl) T.b_isinstance (by decide +kernel) (pa_cons (pv 1) (pa_cons (pe_glob (v := .ref T.c_Stay) (by rfl) T.g_Stay rfl) pa_nil))) (pe_and (pe_cmpR op_eq (pe_fld (pv 0) rfl) (pe_fld (pv 1) rfl) (nomark _)) (pe_one (pe_cmpR op_eq (pe_fld (pv 0) rfl) (pe_fld (pv 1) rfl) (nomark _))))))), ?_⟩
    refine body_of (pure_start ex nt) ?_
    walk_at "wi"
    rcases h with ⟨s', f', e', rfl, st', h⟩ | ⟨t, ty, kt, h⟩
    · obtain ⟨dx, p, a1, b1⟩ := st'.at_
      refine r_isi (.own _) (T.own_Stay.ty a1) T.kit_Stay ?_
      walk_at "wi"
      rw [int_eq]
      refine ⟨fun hb => ?_, fun hb => ?_⟩
      · walk_at "wi"
        rw [int_eq]
        rw [hb] at h
        exact h 0
      · rw [hb] at h
        exact h 0
    · refine r_isi (.own _) ty kt ?_
      walk_at "wi"
      exact h 0
theorem ok_Stay___str__ (T : Tx K mg) : FnOk P w K mg base CX0 1 T.f_Stay___str__ T.d_Stay___str__ ["self"] (liftX (bStr T.c_Stay)) := by
  refine T.F_Stay___str__.ok sc_Stay___str__ (fun vs H Q E h => ?_) (fun cdv A outer s H vs Q E hr h => ?_)
  · obtain ⟨kn, _, _, a, f, e, rfl, _⟩ := h
    rfl
  · obtain ⟨kn, ex, nt, a, f, e, rfl, st, h⟩ := h
    have cS := T.cl_Stay; have nF := T.na_Stay_first; have nA := T.na_Stay_after; have nN := T.na_Stay__nights
    refine ⟨_, (pss_one (ps_ret (pe_joined (.cons (pe_fmt (pe_fld (pv 0) rfl)) (.cons pe_str (.cons (pe_fmt (pe_callB c_len (by rfl) T.b_len PySem.boot_len (pa_cons (pe_fld (pv 0) rfl) pa_nil))) .nil)))))), ?_⟩
    refine body_of (pure_start ex nt) ?_
    walk_at "wi"
    have h1 : -999999999999 ≤ f ∧ f ≤ 999999999999 := st.d1
    have h2 := st.lt
    have h3 := st.most
    refine w_fmtI ?_
    walk_at "wi"
    refine ⟨log_small (by omega) (by omega), ?_⟩
    walk_at "wi"
    have l0 : (Str.empty ++ (toString f : String) : Str).length ≤ 14 := by rw [PySem.Str.length_append]; have := len_small (i := f) (by omega) (by omega); show 0 + _ ≤ _; omega
    refine ⟨Nat.le_trans l0 (by rw [sizeLine_eq]; decide), ?_⟩
    walk_at "wi"
    have l1 : ((Str.empty ++ (toString f : String) : Str) ++ "+").length ≤ 15 := by rw [PySem.Str.length_append]; show _ + 1 ≤ _; omega
    refine ⟨Nat.le_trans l1 (by rw [sizeLine_eq]; decide), ?_⟩
    walk_at "wi"
    refine w_fmtI ?_
    walk_at "wi"
    intro p hp
    walk_at "wi"
    rw [show (((rgV f e).length : Nat) : Int) = e - f by rw [rgV_length]; omega]
    refine ⟨log_small (by omega) (by omega), ?_⟩
    walk_at "wi"
    have l2 : (((Str.empty ++ (toString f : String) : Str) ++ "+") ++ (toString (e - f) : String)).length ≤ 30 := by rw [PySem.Str.length_append]; have := len_small (i := e - f) (by omega) (by omega); omega
    refine ⟨Nat.le_trans l2 (by rw [sizeLine_eq]; decide), ?_⟩
    walk_at "wi"
    exact h 0
end

end NN

namespace NN
open PySem PySem.Spec PyProof.Rows L2 LamX AW ClX
/-! ### texts read -/
-- a stay that is known
local macro_rules | `(tactic| walk_at "st") => `(tactic| first
  | assumption
  | ((with_reducible refine' StayAt.ext ?h1 ?h2); (case h1 => assumption); (case h2 => walk_at "st"))
  | ((with_reducible refine' StayAt.ext ?h1 ?h2); (case h1 => exact ext_new (by assumption)); (case h2 => walk_at "st")))
local macro_rules | `(tactic| walk_at "w2") => `(tactic| first
  | ((with_reducible refine' w_first ?h1 ?h2 ?h3 ?h4 ?_); (case h3 => rfl); (case h4 => walk_at "st"); (case h1 => assumption); (case h2 => assumption))
  | ((with_reducible refine' w_after ?h1 ?h2 ?h3 ?h4 ?_); (case h3 => rfl); (case h4 => walk_at "st"); (case h1 => assumption); (case h2 => assumption))
  | ((with_reducible refine' w_nights ?h1 ?h2 ?h3 ?h4 ?_); (case h3 => rfl); (case h4 => walk_at "st"); (case h1 => assumption); (case h2 => assumption)))
local macro_rules | `(tactic| walk_at "w") => `(tactic| repeat (first | walk_at "w1" | walk_at "w2" | dsimp only))
local macro_rules | `(tactic| walk_at "wi") => `(tactic| repeat (first | walk_at "w1" | walk_at "w2" | with_reducible refine' s_if ?_ | dsimp only))

open Tx1
section
variable {K : PySem.W.Frag} {c : Cw} {kn : Hp} {n : Nat} {σ : L2.St} {Q : V → Hp → Nat → Prop} {E : XK} {EA : EAK} {C B : Addr}
theorem w_yes {QB : Bool → Hp → Nat → Prop} (q : QB true kn n) : W c (tYes σ) kn n QB := fun H g Q' k => k _ kn n H q g
theorem filt_true {α : Type} (l : List α) : l.filter (fun _ => true) = l := List.filter_eq_self.mpr fun _ _ => rfl
/-- a comprehension of what changes nothing -/
theorem w_lcPure {wi : TI} {gt : TG} {tt : TT} {te : TE} {vs : List Nat}
    (h : WI c (wi σ) kn n fun J kn1 n1 => ∃ (xs : List V) (ka : Hp → Prop) (f : V → V) (p : V → Bool), Gives J xs ka ∧ xs.length ≤ 100000 ∧ (∀ k, Ext kn1 k → ka k) ∧
      (∀ x ∈ xs, ∀ k, Ext kn1 k → WG c gt x (wipe σ vs) k n1 fun σ2 k2 n2 => k2 = k ∧ n2 = n1 ∧ wipe σ2 vs = wipe σ vs ∧ W c (tt σ2) k n1 fun b k3 n3 => b = p x ∧ k3 = k ∧ n3 = n1 ∧ (p x = true → W c (te σ2) k n1 fun y k4 n4 => y = f x ∧ k4 = k ∧ n4 = n1)) ∧
      ∀ D, kn1 D = none → Q (.ref D) (upd kn1 D (.lst ((xs.filter p).map f))) n1) : W c (tLc wi gt tt te vs σ) kn n Q := by
  refine w_lc (fun H g R' q => h H g R' fun J kn1 n1 H1 hJ g1 => q J kn1 n1 H1 ?_ g1)
  obtain ⟨xs, ka, f, p, hG, hl, hk, hs, hd⟩ := hJ
  refine ⟨xs, ka, fun D i acc k m => m = n1 ∧ kn1 D = none ∧ acc = ((xs.take i).filter p).map f ∧ k = upd kn1 D (.lst acc), hG, hl, fun D hD => ⟨rfl, hD, by simp, rfl⟩, ?_, ?_, ?_⟩
  · rintro D i acc k m ⟨rfl, hD, rfl, rfl⟩
    refine ⟨hk _ (ext_new hD), upd_same, ?_⟩
    rw [List.length_map]
    exact Nat.le_trans (List.length_filter_le _ _) (by rw [List.length_take]; exact Nat.min_le_left _ _)
  · rintro D i acc x k m hx ⟨rfl, hD, rfl, rfl⟩
    have hm : x ∈ xs := List.mem_of_getElem? hx
    have ht : xs.take (i + 1) = xs.take i ++ [x] := by rw [List.take_add_one, hx]; rfl
    intro H g N' f'
    refine hs x hm _ (ext_new hD) H g N' fun σ2 k2 n2 H2 hq g2 => f' σ2 k2 n2 H2 ?_ g2
    obtain ⟨rfl, rfl, hw, hq⟩ := hq
    refine ⟨hw, hq.mono fun b k3 n3 hb => ?_⟩
    obtain ⟨rfl, rfl, rfl, he⟩ := hb
    refine ⟨fun hp => (he hp).mono fun y k4 n4 hy => ?_, fun hp => ⟨rfl, hD, ?_, rfl⟩⟩
    · obtain ⟨rfl, rfl, rfl⟩ := hy
      refine ⟨upd_same, rfl, hD, ?_, ?_⟩
      · rw [ht, List.filter_append, List.filter_cons_of_pos hp, List.map_append]; rfl
      · funext z
        by_cases hz : z = D
        · rw [hz, upd_same, upd_same]
        · rw [upd_ne hz, upd_ne hz, upd_ne hz]
    · rw [ht, List.filter_append, List.filter_cons_of_neg (by rw [hp]; exact Bool.false_ne_true)]
      simp
  · rintro D acc k m ⟨rfl, hD, rfl, rfl⟩
    rw [List.take_length]
    exact hd D hD
end
section
variable {P : Program} {w : World} {K : PySem.W.Frag} {mg : Str → Option Value} {base : Heap}
theorem ok_BadText___init__ (T : Tx K mg) : FnOk P w K mg base CX0 1 T.f_BadText___init__ T.d_BadText___init__ ["self", "line", "word"] (spX2 K "line" "word") := by
  refine T.F_BadText___init__.ok sc_BadText___init__ (fun vs H Q E h => ?_) (fun cdv A outer s H vs Q E hr h => ?_)
  · obtain ⟨a, C, y, z, rfl, _⟩ := h
    rfl
  · obtain ⟨a, C, y, z, rfl, oc, hf, hg, ha, h⟩ := h
    refine ⟨_, (pss_cons (ps_ost (pv 0) (pv 1))
       (pss_one (ps_ost (pv 0) (pv 2)))), ?_⟩
    refine ⟨_, rfl, _, rfl, a, C, rfl, oc, hf, .inl ⟨ha, fun dx hd hda => ?_⟩⟩
    refine ⟨_, rfl, _, rfl, a, C, rfl, oc, hg, .inr ⟨dx, [("line", y)], upd_same, ?_, (show 1 ≤ 900 by decide), h dx hd hda⟩⟩
    rw [upd_ne hda, upd_same]
theorem okH_BadText___init__ (T : Tx K mg) : L2H.FnH P w K mg base CX0 1 T.f_BadText___init__ T.d_BadText___init__ ["self", "line", "word"] (spX2 K "line" "word") := by
  refine T.F_BadText___init__.okH sc_BadText___init__ (fun vs H Q E h => ?_) (fun cdv A outer s H vs Q E p hr h => ?_)
  · obtain ⟨a, C, y, z, rfl, _⟩ := h
    rfl
  · obtain ⟨a, C, y, z, rfl, oc, hf, hg, ha, h⟩ := h
    refine ⟨_, (pss_cons (ps_ost (pv 0) (pv 1))
       (pss_one (ps_ost (pv 0) (pv 2)))), ?_⟩
    refine ⟨_, rfl, _, rfl, a, C, rfl, oc, hf, .inl ⟨ha, fun dx hd hda => ?_⟩⟩
    refine ⟨_, rfl, _, rfl, a, C, rfl, oc, hg, .inr ⟨dx, [("line", y)], upd_same, ?_, (show 1 ≤ 900 by decide), h dx hd hda⟩⟩
    rw [upd_ne hda, upd_same]
theorem minus_eq : (Str.ofString "-") = minusS := by decide +kernel
theorem plus_eq : (Str.ofString "+") = plusS := by decide +kernel
theorem len_rp (x : Str) : (Txt.removeprefix x minusS).length ≤ x.length := by
  rw [lenT, lenT, rp_tl]
  split
  · rw [List.length_drop]; omega
  · exact Nat.le_refl _
theorem log_lt {i : Int} {k : Nat} (h : i.natAbs < 2 ^ k) : i.natAbs.log2 < k + 1 := by
  by_cases z : i.natAbs = 0
  · rw [z]; exact Nat.succ_pos _
  · exact Nat.lt_succ_of_lt ((Nat.log2_lt z).mpr h)
theorem day_mk {i : Int} (h1 : -999999999999 ≤ i) (h2 : i ≤ 999999999999) : isDay i := ⟨h1, h2⟩
theorem day_hi {i : Int} (h : isDay i) : i ≤ 999999999999 := h.2
def Asc (x : Str) : Prop := (∀ c ∈ TL.tl x, c < 128) ∧ x.length ≤ 1000
def bRN : List V → Hp → AK → AXK → Prop := fun vs kn Q _ => ∃ x : Str, vs = [.str x] ∧ Asc x ∧ (∀ n, isN x n → Q (.int n) kn) ∧ ((∀ n, ¬ isN x n) → Q .non kn)
theorem mo_rn : MonoX bRN := by
  rintro vs kn Q R E F h1 h2 ⟨x, a, b, c, d⟩
  exact ⟨x, a, b, fun n hn => h1 _ _ (c n hn), fun hn => h1 _ _ (d hn)⟩
theorem ok_read_number (T : Tx K mg) : FnOk P w K mg base CX0 1 T.f_read_number T.d_read_number ["word"] (liftX bRN) := by
  refine T.F_read_number.ok sc_read_number (fun vs H Q E h => ?_) (fun cdv A outer s H vs Q E hr h => ?_)
  · obtain ⟨kn, _, _, x, rfl, _⟩ := h
    rfl
  · obtain ⟨kn, ex, nt, x, rfl, ⟨ha, hl⟩, h1, h2⟩ := h
    refine ⟨_, (pss_cons (ps_set (i := 1) sc_read_number.nd rfl (by first | exact Or.inl rfl | exact Or.inr rfl) (pe_bm PySem.F.plainAttrs_str PySem.F.slot_str_removeprefix (by rfl) m_rp (pv 0) (pa_cons pe_str pa_nil)))
       (pss_cons (ps_if (PW.pt (pw_or (pt_cmpR op_gt (pe_callB c_lenS (by rfl) T.b_len PySem.boot_len (pa_cons (pv 1) pa_nil)) (pe_glob (v := .int 12) (by rfl) (Classical.choose_spec T.g_DIGITS) ⟨_, rfl⟩) (nomark _)) (pw_or1 (pt_not (pt_val (pe_bm0 PySem.F.plainAttrs_str PySem.F.slot_str_isdecimal PySem.F.type_str_isdecimal m_dec (pv 1)))))))
       (pss_one (ps_ret pe_non))
       pss_nil)
       (pss_cons (ps_set (i := 2) sc_read_number.nd rfl (by first | exact Or.inl rfl | exact Or.inr rfl) (pe_callTy c_intS (by rfl) T.b_int boot_int (pa_cons (pv 0) pa_nil)))
       (pss_one (ps_ret (pe_ifExp (pt_cmpR op_eq (pe_callTy c_strI (by rfl) T.b_str (by decide +kernel) (pa_cons (pv 2) pa_nil)) (pv 0) (nomark _)) (pv 2) pe_non)))))), ?_⟩
    refine body_of (pure_start ex nt) ?_
    walk_at "wi"
    refine w_bmS ?_
    walk_at "wi"
    refine ⟨⟨_, rfl⟩, ?_⟩
    walk_at "wi"
    refine r_rp (by omega) ?_
    rw [minus_eq]
    walk_at "wi"
    have hlr := len_rp x
    refine r_lenS (by omega) ?_
    walk_at "wi"
    refine ⟨fun hb => ?_, fun hb => ⟨fun _ => ?_, fun z => absurd z (by decide)⟩⟩
    · have hb := of_decide_eq_false hb
      walk_at "wi"
      refine w_bmS0 ?_
      walk_at "wi"
      refine ⟨⟨_, rfl⟩, ?_⟩
      refine r_dec ?_
      walk_at "wi"
      refine ⟨fun hd => ?_, fun hd => ?_⟩
      · walk_at "wi"
        exact h2 (rn_no (.inr (by simpa using hd))) 0
      · obtain ⟨i, hi, hin, hl2, hu⟩ := rn_yes ha (by omega) (by simpa using hd)
        walk_at "wi"
        refine r_intS hi (by omega) ?_
        walk_at "wi"
        refine r_strI (Nat.lt_trans (log_lt (k := 40) (by omega)) (by decide)) ?_
        walk_at "wi"
        refine ⟨fun he => ?_, fun he => ?_⟩
        · walk_at "wi"
          exact h1 i ⟨(V.str.inj (of_decide_eq_true he)).symm, hin⟩ 0
        · walk_at "wi"
          refine h2 (fun m hm => of_decide_eq_false he ?_) 0
          rw [← hu m hm]
          exact congrArg V.str hm.1.symm
    · have hb := of_decide_eq_true hb
      walk_at "wi"
      exact h2 (rn_no (.inl (by omega))) 0
theorem g_unl {c : Cw} {kn : Hp} {n : Nat} {σ : L2.St} {k : Nat} {t : TGs} {a : Addr} {xs : List V} {N : L2.St → Hp → Nat → Prop} (h : kn a = some (.lst xs)) (hl : xs.length = k) (q : WGs c t xs σ kn n N) : WG c (gUnl K k t) (.ref a) σ kn n N :=
  fun H g N' f => ⟨a, xs, rfl, sql (g.ex _ _ h), hl, q H g N' f⟩
open Classical in
noncomputable def rnV (x : Str) : V := if h : ∃ n, isN x n then .int (Classical.choose h) else .non
noncomputable def rnF : V → V
  | .str x => rnV x
  | v => v
theorem rnV_is {x : Str} {n : Int} (h : isN x n) : rnV x = .int n := by
  unfold rnV
  rw [dif_pos ⟨n, h⟩]
  rw [isN_uni (Classical.choose_spec (⟨n, h⟩ : ∃ n, isN x n)) h]
theorem rnV_no {x : Str} (h : ∀ n, ¬ isN x n) : rnV x = .non := by
  unfold rnV
  rw [dif_neg (fun ⟨n, z⟩ => h n z)]
theorem rnV_flat (x : Str) : flatV (rnV x) = true := by
  unfold rnV
  split <;> rfl
theorem mem_glueL {z : List Nat} {c : Nat} {p : Str} : ∀ {ps : List Str}, p ∈ ps → c ∈ TL.tl p → c ∈ PySem.StrLaws.glueL z ps
  | [], h, _ => nomatch h
  | a :: r, h, hc => by
    simp only [PySem.StrLaws.glueL]
    rcases List.mem_cons.1 h with h | h
    · subst h
      simp [TL.tl] at hc
      simp [hc]
    · have := mem_glueL (z := z) h hc
      simp [this]
theorem split_sub {x y p : Str} (h : p ∈ Txt.split x y) : ∀ c ∈ TL.tl p, c ∈ TL.tl x := by
  intro c hc
  have e := PySem.StrLaws.join_split x y
  rw [← PySem.StrLaws.glued_eq_join] at e
  revert h e
  generalize Txt.split x y = ps
  intro h e
  cases ps with
  | nil => cases h
  | cons a r =>
    have := PySem.StrLaws.glued_list y a r
    rw [e] at this
    show c ∈ x.cps.toList
    rw [this]
    simp only [PySem.StrLaws.glueT]
    rcases List.mem_cons.1 h with h | h
    · subst h
      simp [TL.tl] at hc
      simp [hc]
    · have := mem_glueL (z := y.cps.toList) h hc
      simp [this]
theorem split_asc {x p : Str} (h : p ∈ Txt.split x plusS) (a : Asc x) : Asc p :=
  ⟨fun c hc => a.1 c (split_sub h c hc), Nat.le_trans (part_short h) a.2⟩
/-- Stay.read -/
abbrev BadT (B : Addr) (kn : Hp) (E : AXK) : Prop := ∀ d kn', Ext kn kn' → kn d = none → kn' d = some (.xd [("word", .int 0), ("line", .int 0)]) → E (.ref B) (some d) kn'
def bRead (K : PySem.W.Frag) (C B : Addr) : List V → Hp → AK → AXK → Prop := fun vs kn Q E => ∃ x, vs = [.ref C, x] ∧
  ((∃ t, x = .str t ∧ Asc t ∧ (∀ f n, okT f n → t = txt f n → NewS C kn f (f + n) Q) ∧ (¬ isT t → BadT B kn E)) ∨ (∃ ty, TyX K kn x ty ∧ PySem.W.kitOne K ty (.type "str") = some false ∧ BadT B kn E))
theorem mo_read {C B : Addr} : MonoX (bRead K C B) := by
  rintro vs kn Q R E F h1 h2 ⟨x, a, ⟨t, b, c, d, e⟩ | ⟨ty, b, c, d⟩⟩
  · exact ⟨x, a, .inl ⟨t, b, c, fun f n o z y k z1 z2 z3 => h1 _ _ (d f n o z y k z1 z2 z3), fun z y k z1 z2 z3 => h2 _ _ _ (e z y k z1 z2 z3)⟩⟩
  · exact ⟨x, a, .inr ⟨ty, b, c, fun y k z1 z2 z3 => h2 _ _ _ (d y k z1 z2 z3)⟩⟩
theorem ok_Stay_read (T : Tx K mg) : FnOk P w K mg base (L2.CX P w) 6 T.f_Stay_read T.d_Stay_read ["cls", "text"] (liftX (bRead K T.c_Stay T.c_BadText)) := by
  refine T.F_Stay_read.okX sc_Stay_read (fun vs H Q E h => ?_) (fun cdv A outer s H vs Q E hr h => ?_)
  · obtain ⟨kn, _, _, x, rfl, _⟩ := h
    rfl
  · obtain ⟨kn, ex, nt, x, rfl, h⟩ := h
    refine ⟨_, (pss_cons (ps_set (i := 2) sc_Stay_read.nd rfl (by first | exact Or.inl rfl | exact Or.inr rfl) (pe_ifExp (pt_val (pe_callB call_isi (by rfl) T.b_isinstance (by decide +kernel) (pa_cons (pv 1) (pa_cons (pe_bltn (v := .ty "str") (u := .type "str") (by rfl) T.b_str (by decide +kernel) rfl) pa_nil)))) (pe_splitQ (pv 1) pe_str) (pe_lst pa_nil)))
       (pss_cons (ps_setLc (i := 3) (own := [("word", 4)]) (g := gName 4) (by rfl) sc_Stay_read.nd rfl rfl (sw_true rfl rfl rfl (by decide +kernel)) (pi_list (pv 2)) (blkOk_by (own := [("word", 4)]) (N := ["cls", "text", "words", "numbers", "word", "first", "nights"]) (sc := defScope s_Stay_read) (by decide +kernel)) (fun _ _ _ _ _ => pg_name (i := 4) sc_Stay_read.nd rfl (Or.inl rfl)) (fun _ _ _ _ _ => pts_nil) (fun _ _ _ _ _ => (pe_call (ok_read_number T) (hr.mono (by decide)) (by rfl) T.g_read_number T.F_read_number.kp T.bd_read_number .nil pass0 (pa_cons (pv 4) pa_nil))))
       (pss_cons (ps_if (PW.pt (pw_or (pt_cmpR op_ne (pe_callB c_len (by rfl) T.b_len PySem.boot_len (pa_cons (pv 3) pa_nil)) pe_int (nomark _)) (pw_or1 (pt_cmpR c_inQ pe_non (pv 3) (by rfl)))))
       (pss_one (ps_raise rfl (takes_of rfl rfl rfl rfl) (pmk_oex T.x_BadText T.fi_BadText___init__ T.ti_BadText (ok_BadText___init__ T) (hr.mono (by decide)) T.bd_BadText___init__ .nil pass0 (by rfl) T.g_BadText (pa_cons pe_int (pa_cons pe_int pa_nil)))))
       pss_nil)
       (pss_cons (ps_asg (pv 3) (pg_unl rfl (pgs_cons (pg_name (i := 5) sc_Stay_read.nd rfl (by first | exact Or.inl rfl | exact Or.inr rfl)) (pgs_cons (pg_name (i := 6) sc_Stay_read.nd rfl (by first | exact Or.inl rfl | exact Or.inr rfl)) pgs_nil))))
       (pss_one (L2H.ps_try_onlyX rfl rfl ⟨(by rfl), (by decide), .inl T.g_BadStay⟩ (L2H.passesAt_of rfl) (takes_of rfl rfl rfl rfl) (fun W pn xe tk tk2 po =>
       (pss_one (ps_ret (pe_make T.mk_Stay (ok_Stay___init__ T) (hr.mono (by decide)) (by rfl) T.g_Stay T.bd_Stay___init__ .nil (L2N.passes_call (E := fun (cls : Value) (d : Option Addr) (H' : Hp) => ∀ σ' : L2.St, List.length σ' = 7 → W cls d σ' H') (takesN_len tk) (fun _ _ σ' _ h hl => h σ' hl)) (pa_cons (pv 5) (pa_cons (pe_op op_add (pv 5) (pv 6)) pa_nil)))))) (fun aX oX clsX dX pnX zX vX tkS hot =>
       (pss_one (L2H.ps_raiseHN hot tkS (L2H.pmk5_oexH T.x_BadText T.fi_BadText___init__ T.ti_BadText (okH_BadText___init__ T) (L2H.roomH_mark (hr.mono (by decide)) _) hot T.bd_BadText___init__ pass0 (by rfl) T.g_BadText (pa_cons pe_int (pa_cons pe_int pa_nil)))))))))))), ?_⟩
    refine body_of (pure_start ex nt) ?_
    walk_at "wi"
    rcases h with ⟨t, rfl, asc, hy, hn⟩ | ⟨ty, hty, kt, hbad⟩
    · refine r_isi (.ty _) (.base (.str t)) (kit_ty rfl) ?_
      walk_at "wi"
      refine w_m1 ?_
      walk_at "wi"
      refine ⟨⟨_, rfl⟩, ?_⟩
      walk_at "wi"
      rw [plus_eq]
      have hl := asc.2
      refine r_split (by decide) (by omega) fun p hp => ?_
      walk_at "wi"
      have e1 : Ext kn (upd kn p (.lst ((Txt.split t plusS).map V.str))) := ext_new hp
      have p1 : (upd kn p (.lst ((Txt.split t plusS).map V.str))) p = some (.lst ((Txt.split t plusS).map V.str)) := upd_same
      generalize upd kn p (.lst ((Txt.split t plusS).map V.str)) = kn1 at e1 p1 ⊢
      obtain ⟨ws, hws⟩ : ∃ ws, ws = Txt.split t plusS := ⟨_, rfl⟩
      have hasc : ∀ x ∈ ws, Asc x := fun x hx => split_asc (by rw [← hws]; exact hx) asc
      have hlen : ws.length ≤ 1001 := by
        rw [hws]
        have := split_weight t plusS (by decide)
        have l0 := (List.map (fun x : Str => x.length) (Txt.split t plusS)).sum.zero_le
        omega
      rw [← hws] at p1
      refine w_lcPure (i_list ?_)
      walk_at "w"
      refine ⟨p, _, rfl, p1, ws.map V.str, _, rnF, fun _ => true, gives_lst, by rw [List.length_map]; omega, fun k x => x _ _ p1, fun x hx k ek => ?_, fun D hD => ?_⟩
      · obtain ⟨z, hz, rfl⟩ := List.mem_map.1 hx
        walk_at "w"
        refine ⟨rfl, w_yes ?_⟩
        refine ⟨rfl, rfl, rfl, fun _ => ?_⟩
        walk_at "w"
        refine w_call mo_rn err_no ?_
        walk_at "w"
        exact ⟨z, rfl, hasc z hz, fun n hn => ⟨(rnV_is hn).symm, rfl, rfl⟩, fun hn => ⟨(rnV_no hn).symm, rfl, rfl⟩⟩
      · have eN : List.map rnF (List.filter (fun _ => true) (ws.map V.str)) = ws.map rnV := by rw [filt_true, List.map_map]; rfl
        rw [eN]
        have e2 := ext_tr e1 (ext_new (o := .lst (ws.map rnV)) hD)
        have D2 : (upd kn1 D (.lst (ws.map rnV))) D = some (.lst (ws.map rnV)) := upd_same
        generalize upd kn1 D (.lst (ws.map rnV)) = kn2 at e2 D2 ⊢
        have bad : ∀ {σ0 : L2.St} {D0 : AE} {k : Hp} {m : Nat}, Ext kn k → ¬ isT t → WS (pureC kn H) (fun _ σ H => tMkO T.c_BadText (spX2 K "line" "word") [] (tCons (tC (.int 0)) (tCons (tC (.int 0)) tNil)) σ H fun cls d H' => E cls d H') D0 σ0 k m := fun {σ0 D0 k m} ek hb => by
          refine s_raise2 T.x_BadText T.nx_BadText_line T.nx_BadText_word err_body ?_
          walk_at "w"
          exact ⟨_, _, rfl, fun d hd => hn hb d _ (ext_tr ek (ext_new hd)) (free_ext ek hd) upd_same m⟩
        walk_at "wi"
        refine ⟨fun h1 => ?_, fun h1 => ⟨fun _ => bad e2 ?_, fun z => absurd z (by decide)⟩⟩
        · have l2 : ws.length = 2 := by
            have := of_decide_eq_true (Bool.not_eq_false' .. ▸ h1)
            have := V.int.inj this
            rw [List.length_map] at this
            omega
          obtain ⟨a, b, rfl⟩ : ∃ a b, ws = [a, b] := match ws, l2 with | [a, b], _ => ⟨a, b, rfl⟩
          walk_at "wi"
          refine r_inQ (.inl D2) rfl (by simp only [List.map, List.all, rnV_flat]; rfl) ?_
          have no : (¬ ∃ f, isN a f) ∨ (¬ ∃ n, isN b n) → inV V.non (List.map rnV [a, b]) = true ∧ ¬ isT t := fun h => by
            refine ⟨?_, ?_⟩
            · rcases h with h | h
              · simp only [List.map, inV, List.any, rnV_no (fun n z => h ⟨n, z⟩)]
                rfl
              · simp only [List.map, inV, List.any, rnV_no (fun n z => h ⟨n, z⟩)]
                simp [eqV]
            · rintro ⟨f, n, ok, rfl⟩
              rw [split_txt] at hws
              have ea := (List.cons.inj hws).1
              have eb := (List.cons.inj (List.cons.inj hws).2).1
              rcases h with h | h
              · exact h ⟨f, ea, ok.1⟩
              · exact h ⟨n, eb, by have := ok.2.1; have := ok.2.2.1; omega⟩
          by_cases hab : (∃ f, isN a f) ∧ ∃ n, isN b n
          · obtain ⟨⟨f, ha⟩, m, hb⟩ := hab
            have ev : inV V.non (List.map rnV [a, b]) = false := by
              simp only [List.map, inV, List.any, rnV_is ha, rnV_is hb]
              rfl
            rw [ev]
            walk_at "wi"
            have D3 : kn2 D = some (.lst [.int f, .int m]) := by
              rw [D2]
              simp only [List.map, rnV_is ha, rnV_is hb]
            have tt : t = txt f m := isT_split hws.symm ha hb
            have h12 : (10 : Nat) ^ 12 = 1000000000000 := by decide
            have hf := ha.2
            have df : isDay f := day_mk (by omega) (by omega)
            refine ⟨fun z => absurd (show false = true from z) (by decide), fun _ => ?_⟩
            walk_at "wi"
            refine g_unl D3 rfl ?_
            refine g_cons (g_name (g_cons (g_name (g_nil ?_))))
            walk_at "wi"
            refine fun H0 g0 D' fit => ?_
            refine (s_ret (w_stay (B := T.c_BadStay) (EA := fun cls d kn' n' => cls = .ref T.c_BadStay ∧ Ext kn kn' ∧ ¬ isT t) ?hE ?hW) : WS (pureC kn H) (tRet _) (bodyE (pureC kn H) Q) _ kn2 0) H0 g0 D' fit
            case hE =>
              rintro cls d kn' n' H' ⟨rfl, e3, hb2⟩ g' σ' hσ
              refine ⟨true, T.exm_BadStay, fun _ a ha => ?_, fun z => absurd z (by decide)⟩
              exact bad (D0 := bodyE (pureC kn H) Q) e3 hb2 H' g' D' fit
            case hW =>
              walk_at "wi"
              refine ⟨_, _, rfl, ?_⟩
              by_cases ok : okT f m
              · have o1 := ok.2.1
                have o2 := ok.2.2.1
                have o3 := ok.2.2.2
                exact .inl ⟨df, day_mk (by omega) (by omega), by omega, by omega, fun x kn' ex' hx st => hy f m ok tt x kn' (ext_tr e2 ex') (free_ext e2 hx) st _⟩
              · have nt2 : ¬ isT t := by
                  rintro ⟨g, l, ok2, e⟩
                  obtain ⟨rfl, rfl⟩ := txt_inj (tt.symm.trans e)
                  exact ok ok2
                refine .inr (.inr ⟨df, ?_, fun d kn' ex' hd hk => ⟨rfl, ext_tr e2 ex', nt2⟩⟩)
                by_cases de : isDay (f + m)
                · refine .inr ⟨de, fun ⟨l1, l2⟩ => ok ⟨hf, by omega, by omega, ?_⟩⟩
                  have := day_hi de
                  omega
                · exact .inl de
          · have hab' : (¬ ∃ f, isN a f) ∨ (¬ ∃ n, isN b n) := Classical.not_and_iff_not_or_not.1 hab
            rw [(no hab').1]
            walk_at "wi"
            exact ⟨fun _ => bad e2 (no hab').2, fun z => absurd (show true = false from z) (by decide)⟩
        · rintro ⟨f, n, ok, rfl⟩
          rw [hws, split_txt] at h1
          exact absurd (show (!decide (V.int 2 = V.int 2)) = true from h1) (by decide)
    · refine r_isi (.ty _) hty kt ?_
      walk_at "wi"
      refine ⟨by decide, fun p hp => ?_⟩
      walk_at "wi"
      have e1 : Ext kn (upd kn p (.lst [])) := ext_new hp
      have p1 : (upd kn p (.lst [])) p = some (.lst []) := upd_same
      generalize upd kn p (.lst []) = kn1 at e1 p1 ⊢
      refine w_lcPure (i_list ?_)
      walk_at "w"
      refine ⟨p, _, rfl, p1, [], _, rnF, fun _ => true, gives_lst, by decide, fun k x => x _ _ p1, fun x hx => (by cases hx), fun D hD => ?_⟩
      have e2 := ext_tr e1 (ext_new (o := .lst (List.map rnF (List.filter (fun _ => true) []))) hD)
      have D2 : (upd kn1 D (.lst (List.map rnF (List.filter (fun _ => true) [])))) D = some (.lst []) := upd_same
      generalize upd kn1 D (.lst (List.map rnF (List.filter (fun _ => true) []))) = kn2 at e2 D2 ⊢
      walk_at "wi"
      refine ⟨fun h1 => absurd (show (!decide (V.int 0 = V.int 2)) = false from h1) (by decide), fun _ => ⟨fun _ => ?_, fun z => absurd z (by decide)⟩⟩
      refine s_raise2 T.x_BadText T.nx_BadText_line T.nx_BadText_word err_body ?_
      walk_at "w"
      exact ⟨_, _, rfl, fun d hd => hbad d _ (ext_tr e2 (ext_new hd)) (free_ext e2 hd) upd_same _⟩
end

end NN

namespace NN
open PySem PySem.Spec PyProof.Rows L2 LamX AW ClX
section
variable {P : Program} {w : World} {K : PySem.W.Frag} {mg : Str → Option Value} {base : Heap}
theorem ok__law_draw (T : Tx K mg) : FnOk P w K mg base CX0 1 T.f__law_draw T.d__law_draw ["pen", "many"] spDraw := by
  refine T.F__law_draw.ok sc__law_draw (fun vs H Q E h => ?_) (fun cdv A outer s H vs Q E hr h => ?_)
  · obtain ⟨p, a, ns, n, many, rfl, _⟩ := h
    rfl
  · obtain ⟨p, a, ns, n, many, rfl, hp, hn, h0, h1, k⟩ := h
    obtain ⟨⟨i, g, hP, hi0, hin, hg0⟩, hA, hpa⟩ := hp
    refine ⟨_, (pss_cons (ps_if (pt_cmpR op_gt (pe_ix ix_list (pv 0) pe_int (fun _ _ => rfl)) pe_int (nomark _))
       (pss_cons (ps_set (i := 2) sc__law_draw.nd rfl (by first | exact Or.inl rfl | exact Or.inr rfl) (pe_op op_mod (pe_callTy c_int (by rfl) T.b_int boot_int (pa_cons (pe_ix ix_list (pv 0) pe_int (fun _ _ => rfl)) pa_nil)) (pv 1)))
       (pss_cons (ps_asg (pe_op op_fdivW (pe_callTy c_int (by rfl) T.b_int boot_int (pa_cons (pe_ix ix_list (pv 0) pe_int (fun _ _ => rfl)) pa_nil)) (pv 1)) (pg_sub (pv 0) pe_int set_list))
       (pss_one (ps_ret (pv 2)))))
       pss_nil)
       (pss_cons (ps_set (i := 3) sc__law_draw.nd rfl (by first | exact Or.inl rfl | exact Or.inr rfl) (pe_ix ix_list (pv 0) pe_int (fun _ _ => rfl)))
       (pss_cons (ps_asg (pe_op op_add (pv 3) pe_int) (pg_sub (pv 0) pe_int set_list))
       (pss_cons (ps_set (i := 4) sc__law_draw.nd rfl (by first | exact Or.inl rfl | exact Or.inr rfl) (pe_op op_add (pe_op op_mul pe_int (pv 3)) pe_int))
       (pss_cons (ps_if (pt_cmpR (op_neD hr.units) (pe_ix ix_list (pv 0) pe_int (fun _ _ => rfl)) (pe_lst pa_nil) (nomark _))
       (pss_one (ps_set (i := 4) sc__law_draw.nd rfl (by first | exact Or.inl rfl | exact Or.inr rfl) (pe_ix ix_list (pe_ix ix_list (pv 0) pe_int (fun _ _ => rfl)) (pe_op op_mod (pe_callTy c_int (by rfl) T.b_int boot_int (pa_cons (pv 3) pa_nil)) (pe_callB c_len (by rfl) T.b_len PySem.boot_len (pa_cons (pe_ix ix_list (pv 0) pe_int (fun _ _ => rfl)) pa_nil))) (fun _ _ => rfl))))
       pss_nil)
       (pss_cons (ps_if (PW.pt (pw_and (pt_cmpR op_lt (pv 3) (pe_callB c_len (by rfl) T.b_len PySem.boot_len (pa_cons (pe_ix ix_list (pv 0) pe_int (fun _ _ => rfl)) pa_nil)) (nomark _)) (pw_and1 (pt_cmpR op_ge (pe_callB c_abs (by rfl) T.b_abs (by decide +kernel) (pa_cons (pv 4) pa_nil)) (pe_op op_pow pe_int pe_int) (nomark _)))))
       (pss_cons (ps_set (i := 5) sc__law_draw.nd rfl (by first | exact Or.inl rfl | exact Or.inr rfl) (pe_op op_add (pe_op op_mul pe_int (pe_op op_sub (pe_callB c_abs (by rfl) T.b_abs (by decide +kernel) (pa_cons (pv 4) pa_nil)) (pe_op op_pow pe_int pe_int))) (pe_callTy c_int (by rfl) T.b_int boot_int (pa_cons (pe_cmpR op_lt (pv 4) pe_int (nomark _)) pa_nil))))
       (pss_cons (ps_asg (pe_op op_fdivW (pe_callTy c_int (by rfl) T.b_int boot_int (pa_cons (pv 5) pa_nil)) (pv 1)) (pg_sub (pv 0) pe_int set_list))
       (pss_one (ps_ret (pe_op op_mod (pe_callTy c_int (by rfl) T.b_int boot_int (pa_cons (pv 5) pa_nil)) (pv 1))))))
       pss_nil)
       (pss_cons (ps_set (i := 6) sc__law_draw.nd rfl (by first | exact Or.inl rfl | exact Or.inr rfl) (pe_op op_mod (pe_callTy c_int (by rfl) T.b_int boot_int (pa_cons (pe_op op_pow (pe_op op_add (pe_op op_add (pe_op op_mod (pe_callTy c_int (by rfl) T.b_int boot_int (pa_cons (pv 4) pa_nil)) pe_int) (pe_op op_mul pe_int (pv 3))) pe_int) pe_int) pa_nil)) pe_int))
       (pss_cons (ps_set (i := 6) sc__law_draw.nd rfl (by first | exact Or.inl rfl | exact Or.inr rfl) (pe_op op_mod (pe_callTy c_int (by rfl) T.b_int boot_int (pa_cons (pe_op op_pow (pe_op op_add (pe_op op_add (pe_op op_mul (pv 6) (pe_op op_add (pe_op op_mul pe_int (pv 3)) pe_int)) (pe_op op_mul (pe_op op_mul pe_int (pv 3)) (pv 3))) pe_int) pe_int) pa_nil)) pe_int))
       (pss_one (ps_ret (pe_op op_mod (pe_callTy c_int (by rfl) T.b_int boot_int (pa_cons (pe_op op_fdivW (pv 6) pe_int) pa_nil)) (pv 1)))))))))))), ?_⟩
    have e : Ext (penKn H p a) H := fun x o h => by
      unfold penKn at h
      split at h
      · exact h
      · cases h
    have kP : penKn H p a p = some (.lst [.ref a, .int i, .int g]) := (if_pos (.inl rfl)).trans hP
    have kA : penKn H p a a = some (.lst (ns.map V.int)) := (if_pos (.inr rfl)).trans hA
    have done : ∀ (k' : Int) (kn' : Hp) (n' : Nat) (i' g' : Int), 0 ≤ k' → k' < many → kn' p = some (.lst [.ref a, .int i', .int g']) → kn' a = some (.lst (ns.map V.int)) → 0 ≤ i' → i' ≤ (n + 1 : Nat) → 0 ≤ g' → ∀ H', Good (pureC (penKn H p a) H) kn' n' H' → Q (.int k') H' := fun k' kn' n' i' g' b1 b2 e1 e2 b3 b4 b5 H' G => by
      refine k k' H' b1 b2 ⟨⟨i', g', G.ex _ _ e1, b3, b4, b5⟩, G.ex _ _ e2, hpa⟩ fun x o hx hH => ?_
      by_cases hxa : x = a
      · rw [hxa, hA] at hH
        cases hH
        rw [hxa]
        exact G.ex _ _ e2
      · exact G.inv x o hH (.inl (if_neg (by simp [hx, hxa])))
    have hlog : many.natAbs.log2 < 9000 := Nat.lt_trans ((Nat.log2_lt (by omega)).mpr (show many.natAbs < 2 ^ 70 by omega)) (by decide)
    refine body_of (pure_start e (fun x o h => by
      unfold penKn at h
      split at h
      · rename_i hh
        rcases hh with rfl | rfl
        · rw [hP] at h; cases h; rfl
        · rw [hA] at h; cases h; rfl
      · cases h)) ?_
    walk_at "w"
    refine s_if ?_
    walk_at "w"
    refine ⟨fun hg => ?_, fun hg => ?_⟩
    · have hg' : 0 < g := of_decide_eq_true hg
      walk_at "w"
      refine r_I h0 ?_
      walk_at "w"
      refine r_I ⟨h0, hlog⟩ ?_
      walk_at "w"
      refine ⟨_, _, _, 2, rfl, rfl, kP, rfl, ?_⟩
      walk_at "w"
      have kA' : ∀ o, upd (penKn H p a) p o a = some (.lst (ns.map V.int)) := fun o => by rw [upd_ne hpa.symm]; exact kA
      exact done _ _ _ i (g / many) (Int.emod_nonneg _ (by omega)) (Int.emod_lt_of_pos _ h0) upd_same (kA' _) hi0 (by omega) (Int.ediv_nonneg hg0 (by omega))
    · walk_at "w"
      refine ⟨_, _, _, 1, rfl, rfl, kP, rfl, ?_⟩
      have kA1 : ∀ o, upd (penKn H p a) p o a = some (.lst (ns.map V.int)) := fun o => by rw [upd_ne hpa.symm]; exact kA
      have kP1 : ∀ o, upd (penKn H p a) p o p = some o := fun o => upd_same
      walk_at "w"
      refine r_I (.inl ⟨by decide, by decide⟩) ?_
      walk_at "w"
      -- if pen[0] != []
      refine s_join (fun σ' kn' n' => ∃ cell : Int, σ' = [some (.ref p), some (.int many), none, some (.int i), some (.int cell), none, none] ∧ kn' p = some (.lst [.ref a, .int (i + 1), .int g]) ∧ kn' a = some (.lst (ns.map V.int))) ?_ ?_
      · have kP1 := kP1 (.lst [.ref a, .int (i + 1), .int g])
        have kA1 := kA1 (.lst [.ref a, .int (i + 1), .int g])
        refine s_if ?_
        walk_at "w"
        refine ⟨by decide, fun l hl => ?_⟩
        refine r_ne_d (.lst (sql (know hl kA1)) (dp_ints ns)) (.lst (sql upd_same) .nil) (shaped_ints ns) rfl ?_
        walk_at "w"
        rw [nil_eqv]
        refine ⟨fun hb => ?_, fun hb => ?_⟩
        · have hne : ns ≠ [] := by
            intro z
            rw [z] at hb
            cases hb
          have hl0 : 0 < ns.length := by
            cases ns with
            | nil => exact absurd rfl hne
            | cons => exact Nat.succ_pos _
          have kA3 := know (o := .lst []) hl kA1
          have kP3 := know (o := .lst []) hl kP1
          walk_at "w"
          refine r_I (by rw [List.length_map]; omega) ?_
          obtain ⟨z, hz⟩ := at_mod ns i hl0
          refine r_ixL kA3 hz ?_
          walk_at "w"
          exact ⟨kP3, kA3⟩
        · walk_at "w"
          exact ⟨know hl kP1, know hl kA1⟩
      · rintro σ' kn' n' ⟨cell, rfl, kP2, kA2⟩
        have mod1 : ∀ x : Int, 0 ≤ x % many ∧ x % many < many := fun x => ⟨Int.emod_nonneg _ (by omega), Int.emod_lt_of_pos _ h0⟩
        walk_at "w"
        refine s_join (fun σ2 kn2 n2 => σ2 = [some (.ref p), some (.int many), none, some (.int i), some (.int cell), none, none] ∧ kn2 p = some (.lst [.ref a, .int (i + 1), .int g]) ∧ kn2 a = some (.lst (ns.map V.int))) ?_ ?_
        · refine s_if ?_
          walk_at "w"
          refine ⟨fun hb => ?_, fun hb => ?_⟩
          · walk_at "w"
            refine r_I ⟨by decide, by decide, by decide⟩ ?_
            walk_at "w"
            refine ⟨fun hb2 => ?_, fun hb2 => ?_⟩
            · have hc : (10 : Int) ^ (18 : Int).toNat ≤ if cell < 0 then -cell else cell := of_decide_eq_true hb2
              walk_at "w"
              refine r_I ⟨by decide, by decide, by decide⟩ ?_
              walk_at "w"
              refine r_I (.inl ⟨by decide, by decide⟩) ?_
              walk_at "w"
              refine r_I ⟨h0, hlog⟩ ?_
              walk_at "w"
              refine ⟨_, _, _, 2, rfl, rfl, kP2, rfl, ?_⟩
              walk_at "w"
              refine r_I h0 ?_
              refine done _ _ _ (i + 1) _ (mod1 _).1 (mod1 _).2 upd_same (by rw [upd_ne hpa.symm]; exact kA2) (by omega) (by omega) (Int.ediv_nonneg ?_ (by omega))
              split <;> omega
            · walk_at "w"
              exact ⟨rfl, kP2, kA2⟩
          · walk_at "w"
            exact ⟨rfl, kP2, kA2⟩
        · rintro σ2 kn2 n2 ⟨rfl, kP3, kA3⟩
          walk_at "w"
          refine r_I (by decide) ?_
          obtain ⟨x, hx⟩ : ∃ x : Int, x = cell % 2147483579 := ⟨_, rfl⟩
          have x0 : 0 ≤ x := hx ▸ Int.emod_nonneg _ (by decide)
          have x1 : x < 2147483579 := hx ▸ Int.emod_lt_of_pos _ (by decide)
          rw [← hx]
          walk_at "w"
          refine r_I (.inl ⟨by decide, by decide⟩) ?_
          walk_at "w"
          refine r_I ⟨by decide, by decide, by omega⟩ ?_
          walk_at "w"
          refine r_I (by decide) ?_
          generalize ((x + 45631 * i + 967) ^ (5 : Int).toNat) = y
          obtain ⟨z, hz⟩ : ∃ z : Int, z = y % 2147483629 := ⟨_, rfl⟩
          have z0 : 0 ≤ z := hz ▸ Int.emod_nonneg _ (by decide)
          have z1 : z < 2147483629 := hz ▸ Int.emod_lt_of_pos _ (by decide)
          rw [← hz]
          walk_at "w"
          refine r_I (.inl ⟨by decide, by decide⟩) ?_
          walk_at "w"
          refine r_I (.inl ⟨by omega, by omega⟩) ?_
          walk_at "w"
          refine r_I (.inl ⟨by decide, by decide⟩) ?_
          walk_at "w"
          refine r_I (.inl ⟨by omega, by omega⟩) ?_
          walk_at "w"
          obtain ⟨m1, m2⟩ := mul_bd z0 (show z ≤ 2147483629 by omega) (show 0 ≤ 2 * i + 347 by omega) (show 2 * i + 347 ≤ 2000347 by omega)
          obtain ⟨m3, m4⟩ := mul_bd (show 0 ≤ 58897 * i by omega) (show 58897 * i ≤ 58897000000 by omega) hi0 (show i ≤ 1000000 by omega)
          refine r_I ⟨by decide, by decide, by omega⟩ ?_
          walk_at "w"
          refine r_I (by decide) ?_
          walk_at "w"
          refine r_I ⟨by decide, by decide⟩ ?_
          walk_at "w"
          refine r_I h0 ?_
          exact done _ _ _ (i + 1) g (mod1 _).1 (mod1 _).2 kP3 kA3 (by omega) (by omega) hg0

/-- _law_pick -/
def bPick : List V → Hp → AK → AXK → Prop := fun vs kn Q _ => ∃ l xs, vs = [.ref l] ∧ kn l = some (.lst xs) ∧ 0 < xs.length ∧ xs.length ≤ 1000 ∧ ∀ v ∈ xs, Q v kn
theorem mo_pick : MonoX bPick := by
  rintro vs kn Q R E F h1 h2 ⟨l, xs, a, b, c, d, h⟩
  exact ⟨l, xs, a, b, c, d, fun v hv => h1 _ _ (h v hv)⟩
theorem ok__law_pick (T : Tx K mg) (TT : List (Addr × Str)) : FnOk P w K mg base CX0 2 T.f__law_pick T.d__law_pick ["pen", "some"] (liftP TT 1 bPick) := by
  refine T.F__law_pick.ok sc__law_pick (fun vs H Q E h => ?_) (fun cdv A outer s H vs Q E hr h => ?_)
  · obtain ⟨p, a, ns, n, kn, ws, rfl, _, _, l, xs, rfl, _⟩ := h
    rfl
  · obtain ⟨p, a, ns, n, kn, ws, rfl, g, hn, l, xs, rfl, hl, l1, l2, h⟩ := h
    refine ⟨_, (pss_one (ps_ret (pe_ix ix_list (pv 1) (pe_call (ok__law_draw T) (hr.mono (by decide)) (by rfl) T.g__law_draw T.F__law_draw.kp T.bd__law_draw .nil pass0 (pa_cons (pv 0) (pa_cons (pe_callB c_len (by rfl) T.b_len PySem.boot_len (pa_cons (pv 1) pa_nil)) pa_nil))) (fun _ _ => rfl)))), ?_⟩
    refine body_of g ?_
    walk_at "w"
    refine w_draw ?_
    walk_at "w"
    refine ⟨by omega, by omega, by omega, fun k k0 k1 => ?_⟩
    obtain ⟨j, hj⟩ : ∃ j : Nat, k = j := ⟨k.toNat, by omega⟩
    subst hj
    have hj : j < xs.length := by omega
    refine r_ixL hl (atI_nat (List.getElem?_eq_getElem hj)) ?_
    exact h _ (List.getElem_mem hj)
/-- _law_pen -/
def spPen (K : PySem.W.Frag) : Sp := fun vs H Q _ => ∃ (s : Addr) (ns : List Int), vs = [.ref s] ∧ SqL K H s (ns.map V.int) ∧
  ∀ (p a : Addr) (ns' : List Int) (H' : Hp), p ≠ a → H p = none → H a = none → H' p = some (.lst [.ref a, .int 0, .int 0]) → H' a = some (.lst (ns'.map V.int)) → Ext H H' → Q (.ref p) H'
theorem cut_map (ns : List Int) (lo hi : Option Int) : ∃ ns' : List Int, cutV (ns.map V.int) lo hi = ns'.map V.int := by
  unfold cutV
  exact ⟨(ns.drop _).take _, by rw [List.map_take, List.map_drop]⟩
theorem ok__law_pen (T : Tx K mg) : FnOk P w K mg base CX0 1 T.f__law_pen T.d__law_pen ["script"] (spPen K) := by
  refine T.F__law_pen.ok sc__law_pen (fun vs H Q E h => ?_) (fun cdv A outer s H vs Q E hr h => ?_)
  · obtain ⟨s, ns, rfl, _⟩ := h
    rfl
  · obtain ⟨sc, ns, rfl, hs, h⟩ := h
    refine ⟨_, (pss_one (ps_ret (pe_lst (pa_cons (pe_callTy c_list (by rfl) T.b_list (by decide +kernel) (pa_cons (pe_slice sl_list (pv 0) po_none (po_some pe_int)) pa_nil)) (pa_cons pe_int (pa_cons pe_int pa_nil)))))), ?_⟩
    obtain ⟨ns', e⟩ := cut_map ns none (some 63)
    refine ⟨_, rfl, _, rfl, sc, _, rfl, hs, fun l hl => ⟨l, _, rfl, .inl (sql upd_same), fun a ha => ⟨(by rw [sizeLine_eq]; exact (show 3 ≤ 16777216 by decide)), fun p hp => ?_⟩⟩⟩
    have la : l ≠ a := fun z => by rw [z, upd_same] at ha; cases ha
    have ha0 : H a = none := by rw [upd_ne (Ne.symm la)] at ha; exact ha
    have pa : p ≠ a := fun z => by rw [z, upd_same] at hp; cases hp
    have pl : p ≠ l := fun z => by rw [z, upd_ne la, upd_same] at hp; cases hp
    have hp0 : H p = none := by rw [upd_ne pa, upd_ne pl] at hp; exact hp
    refine h p a ns' _ pa hp0 ha0 upd_same ?_ ?_
    · rw [upd_ne (Ne.symm pa), upd_same, e]
    · exact fun x o hx => by rw [upd_ne (ne_of_none hx hp0), upd_ne (ne_of_none hx ha0), upd_ne (ne_of_none hx hl)]; exact hx
end

end NN

namespace NN
open PySem PySem.Spec PyProof.Rows L2 LamX AW ClX
/-! ### the law's own look at a text -/
-- a stay that is known
local macro_rules | `(tactic| walk_at "st") => `(tactic| first
  | assumption
  | ((with_reducible refine' StayAt.ext ?h1 ?h2); (case h1 => assumption); (case h2 => walk_at "st"))
  | ((with_reducible refine' StayAt.ext ?h1 ?h2); (case h1 => exact ext_new (by assumption)); (case h2 => walk_at "st")))
local macro_rules | `(tactic| walk_at "w2") => `(tactic| first
  | ((with_reducible refine' w_first ?h1 ?h2 ?h3 ?h4 ?_); (case h3 => rfl); (case h4 => walk_at "st"); (case h1 => assumption); (case h2 => assumption))
  | ((with_reducible refine' w_after ?h1 ?h2 ?h3 ?h4 ?_); (case h3 => rfl); (case h4 => walk_at "st"); (case h1 => assumption); (case h2 => assumption))
  | ((with_reducible refine' w_nights ?h1 ?h2 ?h3 ?h4 ?_); (case h3 => rfl); (case h4 => walk_at "st"); (case h1 => assumption); (case h2 => assumption)))
local macro_rules | `(tactic| walk_at "w") => `(tactic| repeat (first | walk_at "w1" | walk_at "w2" | dsimp only))
local macro_rules | `(tactic| walk_at "wi") => `(tactic| repeat (first | walk_at "w1" | walk_at "w2" | with_reducible refine' s_if ?_ | dsimp only))

open Tx1
theorem dp_strs {K : PySem.W.Frag} {H : Hp} : ∀ ns : List Str, DpAll K H (ns.map V.str) (ns.map PyData.str)
  | [] => .nil
  | n :: r => .cons (.str n) (dp_strs r)
theorem lay_strs : ∀ ns : List Str, (∀ s ∈ ns, PyData.strOk s = true) → PyData.canLayAll0 (ns.map PyData.str) = true
  | [], _ => by simp [PyData.canLayAll0]
  | n :: r, h => by simp only [List.map_cons, PyData.canLayAll0, PyData.canLay0]; rw [h n List.mem_cons_self, lay_strs r (fun s hs => h s (List.mem_cons_of_mem _ hs))]; rfl
theorem deep_strs : ∀ ns : List Str, PyData.depthAll (ns.map PyData.str) = 0
  | [] => by simp [PyData.depthAll]
  | n :: r => by simp only [List.map_cons, PyData.depthAll, PyData.depth]; rw [deep_strs r]; rfl
theorem shaped_strs (ns : List Str) (h : ∀ s ∈ ns, PyData.strOk s = true) : SeqAt.shaped (.list (ns.map PyData.str)) = true := by
  unfold SeqAt.shaped
  rw [show PyData.canLay0 (.list (ns.map PyData.str)) = true by simp only [PyData.canLay0]; exact lay_strs ns h, show PyData.depth (.list (ns.map PyData.str)) = 1 by simp only [PyData.depth]; rw [deep_strs ns]]
  rfl
theorem nil_eqvS (ns : List Str) : PyData.eqv (.list (ns.map PyData.str)) (.list []) = ns.isEmpty := by
  cases ns <;> simp [PyData.eqv, PyData.eqvAll]
abbrev digS : Str := SX.S [48, 49, 50, 51, 52, 53, 54, 55, 56, 57]
theorem dig_eq : (Str.ofString "0123456789") = digS := by decide +kernel
theorem zero_eq : (Str.ofString "0") = SX.S [48] := by decide +kernel
theorem empty_eq : (Str.ofString "") = SX.S [] := by decide +kernel
def pD : V → Bool
  | .str z => !!(Builtin.Str.occurrences digS z 0 digS.length 1).isEmpty
  | _ => true
def isDig (d : Nat) : Bool := decide (d ∈ [48, 49, 50, 51, 52, 53, 54, 55, 56, 57])
theorem pD_chr (d : Nat) : pD (chr1 d) = !isDig d := by
  unfold isDig
  rw [← SX.in_one [48, 49, 50, 51, 52, 53, 54, 55, 56, 57] d]
  rfl
theorem isDig_iff (d : Nat) : isDig d = true ↔ 48 ≤ d ∧ d ≤ 57 := by
  unfold isDig
  simp
  omega
def odds (x : Str) : List Str := ((TL.tl x).filter (fun d => !isDig d)).map fun d => { cps := #[d] }
theorem odds_eq (x : Str) : List.map (fun v : V => v) (List.filter pD ((TL.tl x).map chr1)) = (odds x).map V.str := by
  unfold odds
  rw [List.map_id', List.filter_map, List.map_map]
  have : (pD ∘ chr1) = fun d => !isDig d := funext pD_chr
  rw [this]
  rfl
theorem odds_nil (x : Str) : (odds x).isEmpty = true ↔ PySem.NumText.AllDigits (TL.tl x) := by
  unfold odds PySem.NumText.AllDigits
  rw [List.isEmpty_iff, List.map_eq_nil_iff, List.filter_eq_nil_iff]
  constructor
  · intro h c hc
    have := h c hc
    exact (isDig_iff c).1 (by simpa using this)
  · intro h c hc
    have := (isDig_iff c).2 (h c hc)
    simp [this]
def bCnt : List V → Hp → AK → AXK → Prop := fun vs kn Q _ => ∃ (x : Str) (k : Nat), vs = [.str x, .int k] ∧ Asc x ∧ 0 < k ∧ (isC k x → ∀ k', Ext kn k' → Q (.bl true) k') ∧ (¬ isC k x → ∀ k', Ext kn k' → Q (.bl false) k')
theorem mo_cnt : MonoX bCnt := by
  rintro vs kn Q R E F h1 h2 ⟨x, k, a, b, c, d, e⟩
  exact ⟨x, k, a, b, c, fun z y zz => h1 _ _ (d z y zz), fun z y zz => h1 _ _ (e z y zz)⟩
section
variable {P : Program} {w : World} {K : PySem.W.Frag} {mg : Str → Option Value} {base : Heap}
theorem ok__law_is_count (T : Tx K mg) : FnOk P w K mg base CX0 1 T.f__law_is_count T.d__law_is_count ["word", "figures"] (liftX bCnt) := by
  refine T.F__law_is_count.ok sc__law_is_count (fun vs H Q E h => ?_) (fun cdv A outer s H vs Q E hr h => ?_)
  · obtain ⟨kn, _, _, x, k, rfl, _⟩ := h
    rfl
  · obtain ⟨kn, ex, nt, x, k, rfl, ⟨ha, hl⟩, hk, h1, h2⟩ := h
    refine ⟨_, (pss_cons (ps_if (PW.pt (pw_or (pt_cmpR op_eq (pv 0) pe_str (nomark _)) (pw_or (pt_cmpR op_gt (pe_callB c_lenS (by rfl) T.b_len PySem.boot_len (pa_cons (pv 0) pa_nil)) (pv 1) (nomark _)) (pw_or1 (pt_cmpR (op_neD hr.units) (pe_lc (own := [("sign", 2)]) (g := gName 2) (by rfl) sc__law_is_count.nd (pi_str (pv 0)) (blkOk_by (own := [("sign", 2)]) (N := ["word", "figures", "sign"]) (sc := defScope s__law_is_count) (by decide +kernel)) (fun _ _ _ _ _ => pg_name (i := 2) sc__law_is_count.nd rfl (Or.inl rfl)) (fun _ _ _ _ _ => (pts_one (pt_cmpR op_notInT (pv 2) pe_str (by rfl)))) (fun _ _ _ _ _ => (pv 2))) (pe_lst pa_nil) (nomark _))))))
       (pss_one (ps_ret pe_bl))
       pss_nil)
       (pss_one (ps_ret (pe_or (pe_cmpR op_eq (pv 0) pe_str (nomark _)) (pe_one (pe_cmpR op_ne (pe_itemZ (pv 0) pe_int (fun _ _ => rfl)) pe_str (nomark _))))))), ?_⟩
    refine body_of (pure_start ex nt) ?_
    walk_at "wi"
    refine ⟨fun h0 => ?_, fun h0 => ⟨fun _ => ?_, fun z => absurd z (by decide)⟩⟩
    · have h0 := of_decide_eq_false h0
      have hne : TL.tl x ≠ [] := fun z => h0 (by rw [empty_eq]; exact congrArg V.str (ext_str z))
      walk_at "wi"
      refine r_lenS (by omega) ?_
      walk_at "wi"
      refine ⟨fun hb => ?_, fun hb => ⟨fun _ => ?_, fun z => absurd z (by decide)⟩⟩
      · have hb := of_decide_eq_false hb
        walk_at "wi"
        rw [dig_eq]
        refine w_lcPure (i_str ?_)
        walk_at "w"
        refine ⟨(TL.tl x).map chr1, _, fun v => v, pD, gives_str, (by rw [List.length_map, ← lenT]; omega), fun _ _ => trivial, fun v hv k2 ek => ?_, fun D hD => ?_⟩
        · obtain ⟨d, _, rfl⟩ := List.mem_map.1 hv
          walk_at "w"
          refine ⟨rfl, ?_⟩
          walk_at "w"
          refine r_notInT ?_
          walk_at "w"
          · rfl
          · refine ⟨rfl, fun _ => ?_⟩
            walk_at "w"
            all_goals first | exact ⟨rfl, rfl, rfl⟩ | exact ⟨rfl, rfl⟩ | rfl
        · rw [odds_eq]
          have D1 : (upd kn D (.lst ((odds x).map V.str))) D = some (.lst ((odds x).map V.str)) := upd_same
          have e1 : Ext kn (upd kn D (.lst ((odds x).map V.str))) := ext_new hD
          generalize upd kn D (.lst ((odds x).map V.str)) = kn1 at D1 e1 ⊢
          walk_at "wi"
          refine ⟨by decide, fun l hl2 => ?_⟩
          have ok : ∀ s ∈ odds x, PyData.strOk s = true := fun s hs => by
            unfold odds at hs
            obtain ⟨d, hd, rfl⟩ := List.mem_map.1 hs
            have := ha d (List.mem_filter.1 hd).1
            unfold PyData.strOk
            simp
            omega
          refine r_ne_d (.lst (sql (know hl2 D1)) (dp_strs (odds x))) (.lst (sql upd_same) .nil) (shaped_strs (odds x) ok) rfl ?_
          walk_at "wi"
          rw [nil_eqvS]
          have e2 := ext_tr e1 (ext_new (o := .lst []) hl2)
          generalize upd kn1 l (.lst []) = kn2 at e2 ⊢
          refine ⟨fun hz => ?_, fun hz => ?_⟩
          · have nd : ¬ PySem.NumText.AllDigits (TL.tl x) := fun z => by
              rw [(odds_nil x).2 z] at hz
              exact absurd hz (by decide)
            walk_at "wi"
            exact h2 (fun z => nd (cnt_no hk z).1) kn2 e2 0
          · have ad : PySem.NumText.AllDigits (TL.tl x) := (odds_nil x).1 (by simpa using hz)
            walk_at "wi"
            rw [zero_eq]
            have hlk : x.length ≤ k := by omega
            refine ⟨fun hq => ?_, fun hq => ?_⟩
            · have hq := of_decide_eq_false hq
              obtain ⟨d, r, hdr⟩ : ∃ d r, TL.tl x = d :: r := by
                cases hx : TL.tl x with
                | nil => exact absurd hx hne
                | cons d r => exact ⟨d, r, rfl⟩
              walk_at "w"
              refine r_ixZ (d := d) (by decide) (by decide) ?_ ?_ ?_
              · rw [lenT, hdr]; simp only [List.length_cons]; omega
              · have : (TL.tl x)[0]? = some d := by rw [hdr]; rfl
                simpa [TL.tl] using this
              · walk_at "w"
                by_cases hd : d = 48
                · have ev : (!decide (V.str { cps := #[d] } = V.str (SX.S [48]))) = false := by rw [hd]; decide
                  rw [ev]
                  refine h2 (fun z => ?_) kn2 e2 0
                  rcases (cnt_no hk z).2.2.2 with c | c
                  · exact hq (congrArg V.str (ext_str c))
                  · rw [hdr, hd] at c
                    exact c rfl
                · have ev : (!decide (V.str { cps := #[d] } = V.str (SX.S [48]))) = true := by
                    have : ¬ (V.str { cps := #[d] } = V.str (SX.S [48])) := fun z => hd (by
                      have := congrArg TL.tl (V.str.inj z)
                      exact (List.cons.inj this).1)
                    rw [decide_eq_false this]
                    rfl
                  rw [ev]
                  refine h1 (cnt_yes ad hne hlk (.inr ?_)) kn2 e2 0
                  rw [hdr]
                  exact fun z => hd (Option.some.inj z)
            · have hq := congrArg TL.tl (V.str.inj (of_decide_eq_true hq))
              exact h1 (cnt_yes ad hne hlk (.inl hq)) kn2 e2 0
      · walk_at "wi"
        refine h2 (fun z => ?_) kn (fun _ _ z => z) 0
        have := (cnt_no hk z).2.2.1
        have := of_decide_eq_true hb
        omega
    · walk_at "wi"
      refine h2 (fun z => (cnt_no hk z).2.1 ?_) kn (fun _ _ z => z) 0
      have := V.str.inj (of_decide_eq_true h0)
      rw [this, empty_eq]
end

end NN

namespace NN
open PySem PySem.Spec PyProof.Rows L2 LamX AW ClX
-- a stay that is known
local macro_rules | `(tactic| walk_at "st") => `(tactic| first
  | assumption
  | ((with_reducible refine' StayAt.ext ?h1 ?h2); (case h1 => assumption); (case h2 => walk_at "st"))
  | ((with_reducible refine' StayAt.ext ?h1 ?h2); (case h1 => exact ext_new (by assumption)); (case h2 => walk_at "st")))
local macro_rules | `(tactic| walk_at "w2") => `(tactic| first
  | ((with_reducible refine' w_first ?h1 ?h2 ?h3 ?h4 ?_); (case h3 => rfl); (case h4 => walk_at "st"); (case h1 => assumption); (case h2 => assumption))
  | ((with_reducible refine' w_after ?h1 ?h2 ?h3 ?h4 ?_); (case h3 => rfl); (case h4 => walk_at "st"); (case h1 => assumption); (case h2 => assumption))
  | ((with_reducible refine' w_nights ?h1 ?h2 ?h3 ?h4 ?_); (case h3 => rfl); (case h4 => walk_at "st"); (case h1 => assumption); (case h2 => assumption)))
local macro_rules | `(tactic| walk_at "w") => `(tactic| repeat (first | walk_at "w1" | walk_at "w2" | dsimp only))
local macro_rules | `(tactic| walk_at "wi") => `(tactic| repeat (first | walk_at "w1" | walk_at "w2" | with_reducible refine' s_if ?_ | dsimp only))

open Tx1
def bIsT : List V → Hp → AK → AXK → Prop := fun vs kn Q _ => ∃ x : Str, vs = [.str x] ∧ Asc x ∧ (isT x → ∀ k', Ext kn k' → Q (.bl true) k') ∧ (¬ isT x → ∀ k', Ext kn k' → Q (.bl false) k')
theorem mo_isT : MonoX bIsT := by
  rintro vs kn Q R E F h1 h2 ⟨x, a, b, d, e⟩
  exact ⟨x, a, b, fun z y zz => h1 _ _ (d z y zz), fun z y zz => h1 _ _ (e z y zz)⟩
theorem cut_to (x : Str) : cutS x none (some 1) = SX.S ((TL.tl x).take 1) := by
  unfold cutS
  show ({ cps := (List.take (min 1 x.length - 0) (List.drop 0 x.cps.toList)).toArray } : Str) = { cps := ((TL.tl x).take 1).toArray }
  congr 2
  rw [List.drop_zero]
  show List.take _ (TL.tl x) = _
  have := lenT x
  rcases Nat.lt_or_ge 0 x.length with h | h
  · congr 1
    omega
  · have : TL.tl x = [] := List.length_eq_zero_iff.1 (by omega)
    rw [this]
    simp
theorem cut_from (x : Str) : cutS x (some 1) none = SX.S ((TL.tl x).drop 1) := by
  unfold cutS
  show ({ cps := (List.take (x.length - min 1 x.length) (List.drop (min 1 x.length) x.cps.toList)).toArray } : Str) = { cps := ((TL.tl x).drop 1).toArray }
  congr 2
  show List.take _ (List.drop _ (TL.tl x)) = _
  have := lenT x
  rw [List.take_of_length_le (by rw [List.length_drop]; omega)]
  rcases Nat.lt_or_ge 0 x.length with h | h
  · congr 1
    omega
  · have : TL.tl x = [] := List.length_eq_zero_iff.1 (by omega)
    rw [this]
    simp
theorem take1_minus (x : Str) : SX.S ((TL.tl x).take 1) = minusS ↔ (TL.tl x).head? = some 45 := by
  cases h : TL.tl x with
  | nil => simp [SX.S]
  | cons a r => simp [SX.S]
theorem mzero_eq : (Str.ofString "-0") = SX.S [45, 48] := by decide +kernel
theorem asc_cut (x : Str) (a : Asc x) : Asc (bareOf x) := by
  unfold bareOf
  split
  · refine ⟨fun c hc => a.1 c (List.mem_of_mem_drop hc), ?_⟩
    have h2 := a.2
    rw [lenT] at h2 ⊢
    show ((TL.tl x).drop 1).length ≤ 1000
    rw [List.length_drop]
    omega
  · exact a
theorem part_asc {x hd sg tl : Str} (a : Asc x) (h : Txt.partition x plusS = (hd, sg, tl)) : Asc hd ∧ Asc tl := by
  have e := PySem.StrLaws.partition_sum x plusS
  rw [h] at e
  have e : hd ++ sg ++ tl = x := e
  have l := congrArg PySem.Str.length e
  rw [PySem.Str.length_append, PySem.Str.length_append] at l
  have q := congrArg TL.tl e
  rw [TL.tl_append, TL.tl_append] at q
  have := a.2
  refine ⟨⟨fun c hc => a.1 c (by rw [← q]; simp [hc]), by omega⟩, ⟨fun c hc => a.1 c (by rw [← q]; simp [hc]), by omega⟩⟩
theorem w_pure {c : Cw} {kn : Hp} {n : Nat} {σ : L2.St} {Q : V → Hp → Nat → Prop} {t : TE} (v0 : V) (h : W c (t σ) kn n fun v k m => v = v0 ∧ k = kn ∧ m = n) (q : Q v0 kn n) : W c (t σ) kn n Q :=
  h.mono fun v k m ⟨e1, e2, e3⟩ => by subst e1 e2 e3; exact q
section
variable {P : Program} {w : World} {K : PySem.W.Frag} {mg : Str → Option Value} {base : Heap}
theorem ok__law_is_text (T : Tx K mg) : FnOk P w K mg base CX0 2 T.f__law_is_text T.d__law_is_text ["line"] (liftX bIsT) := by
  refine T.F__law_is_text.ok sc__law_is_text (fun vs H Q E h => ?_) (fun cdv A outer s H vs Q E hr h => ?_)
  · obtain ⟨kn, _, _, x, rfl, _⟩ := h
    rfl
  · obtain ⟨kn, ex, nt, x, rfl, asc, h1, h2⟩ := h
    refine ⟨_, (pss_cons (ps_asg (pe_partQ (pv 0) pe_str) (pg_tup (by rfl) (pgs_cons (pg_name (i := 1) sc__law_is_text.nd rfl (by first | exact Or.inl rfl | exact Or.inr rfl)) (pgs_cons (pg_name (i := 2) sc__law_is_text.nd rfl (by first | exact Or.inl rfl | exact Or.inr rfl)) (pgs_cons (pg_name (i := 3) sc__law_is_text.nd rfl (by first | exact Or.inl rfl | exact Or.inr rfl)) pgs_nil)))))
       (pss_cons (ps_set (i := 4) sc__law_is_text.nd rfl (by first | exact Or.inl rfl | exact Or.inr rfl) (pe_ifExp (pt_cmpR op_eq (pe_slice sl_str (pv 1) po_none (po_some pe_int)) pe_str (nomark _)) (pe_slice sl_str (pv 1) (po_some pe_int) po_none) (pv 1)))
       (pss_cons (ps_if (PW.pt (pw_or (pt_not (pt_val (pe_call (ok__law_is_count T) (hr.mono (by decide)) (by rfl) T.g__law_is_count T.F__law_is_count.kp T.bd__law_is_count .nil pass0 (pa_cons (pv 4) (pa_cons pe_int pa_nil))))) (pw_or (pt_cmpR op_eq (pv 1) pe_str (nomark _)) (pw_or (pt_cmpR op_eq (pv 2) pe_str (nomark _)) (pw_or1 (pt_not (pt_val (pe_call (ok__law_is_count T) (hr.mono (by decide)) (by rfl) T.g__law_is_count T.F__law_is_count.kp T.bd__law_is_count .nil pass0 (pa_cons (pv 3) (pa_cons pe_int pa_nil))))))))))
       (pss_one (ps_ret pe_bl))
       pss_nil)
       (pss_one (ps_ret (pe_and (pe_chain op_le op_le pe_int (pe_callTy c_intS (by rfl) T.b_int boot_int (pa_cons (pv 3) pa_nil)) pe_int) (pe_one (pe_cmpR op_lt (pe_op op_add (pe_callTy c_intS (by rfl) T.b_int boot_int (pa_cons (pv 1) pa_nil)) (pe_callTy c_intS (by rfl) T.b_int boot_int (pa_cons (pv 3) pa_nil))) (pe_op op_pow pe_int pe_int) (nomark _))))))))), ?_⟩
    refine body_of (pure_start ex nt) ?_
    walk_at "wi"
    refine w_m1 ?_
    walk_at "wi"
    refine ⟨⟨_, rfl⟩, ?_⟩
    walk_at "wi"
    rw [plus_eq]
    have hl := asc.2
    refine r_part (by decide) (by omega) fun p hp => ?_
    walk_at "wi"
    have e1 : Ext kn (upd kn p (.tup [.str (Txt.partition x plusS).1, .str (Txt.partition x plusS).2.1, .str (Txt.partition x plusS).2.2])) := ext_new hp
    have p1 : (upd kn p (.tup [.str (Txt.partition x plusS).1, .str (Txt.partition x plusS).2.1, .str (Txt.partition x plusS).2.2])) p = some (.tup [.str (Txt.partition x plusS).1, .str (Txt.partition x plusS).2.1, .str (Txt.partition x plusS).2.2]) := upd_same
    generalize upd kn p (.tup [.str (Txt.partition x plusS).1, .str (Txt.partition x plusS).2.1, .str (Txt.partition x plusS).2.2]) = kn1 at e1 p1 ⊢
    have hT := isT_part x
    revert p1 hT
    generalize hpa : Txt.partition x plusS = pt
    obtain ⟨hd, sg, tl⟩ := pt
    intro p1 hT
    refine g_tup p1 rfl ?_
    refine g_cons (g_name (g_cons (g_name (g_cons (g_name (g_nil ?_))))))
    have hT : isT x ↔ sg ≠ Str.empty ∧ ∃ f n, isN hd f ∧ tl = dS n ∧ okT f n := hT
    obtain ⟨aH, aT⟩ := part_asc asc hpa
    have lH := aH.2
    have lT := aT.2
    refine s_seq (s_set ?_)
    refine w_pure (.str (bareOf hd)) ?_ ?_
    · walk_at "w"
      refine r_slS (by omega) ?_
      rw [cut_to]
      walk_at "w"
      rw [minus_eq]
      refine ⟨fun hb => ?_, fun hb => ?_⟩
      · have hb := (take1_minus hd).1 (V.str.inj (of_decide_eq_true hb))
        walk_at "w"
        refine r_slS (by omega) ?_
        rw [cut_from]
        unfold bareOf
        rw [if_pos hb]
        exact ⟨rfl, rfl, rfl⟩
      · have hb : ¬ (TL.tl hd).head? = some 45 := fun z => of_decide_eq_false hb (congrArg V.str ((take1_minus hd).2 z))
        walk_at "w"
        unfold bareOf
        rw [if_neg hb]
        all_goals first | exact ⟨rfl, rfl, rfl⟩ | exact ⟨rfl, rfl⟩ | rfl
    · dsimp only
      have aB := asc_cut hd aH
      walk_at "wi"
      refine w_call mo_cnt err_no ?_
      walk_at "w"
      refine ⟨_, 12, rfl, aB, (by decide), fun c12 k2 ek2 => ?_, fun c12 k2 ek2 => ?_⟩
      · have e2 := ext_tr e1 ek2
        walk_at "wi"
        rw [mzero_eq]
        refine ⟨fun hm => ?_, fun hm => ⟨fun _ => ?_, fun z => absurd z (by decide)⟩⟩
        · have hm : ¬ hd = SX.S [45, 48] := fun z => of_decide_eq_false hm (congrArg V.str z)
          obtain ⟨f, hf⟩ := isN_bare.1 ⟨c12, hm⟩
          walk_at "wi"
          rw [empty_eq]
          refine ⟨fun hs => ?_, fun hs => ⟨fun _ => ?_, fun z => absurd z (by decide)⟩⟩
          · have hs : ¬ sg = Str.empty := fun z => of_decide_eq_false hs (congrArg V.str z)
            walk_at "wi"
            refine w_call mo_cnt err_no ?_
            walk_at "w"
            refine ⟨_, 3, rfl, aT, (by decide), fun c3 k3 ek3 => ?_, fun c3 k3 ek3 => ?_⟩
            · have e3 := ext_tr e2 ek3
              obtain ⟨n, hn, tn⟩ := c3
              have hn2 : ((n : Int)).natAbs < 10 ^ 12 := by
                have : (10 : Nat) ^ 3 = 1000 := by decide
                have : (10 : Nat) ^ 12 = 1000000000000 := by decide
                omega
              have lt : tl.length ≤ 640 := by
                rw [tn, lenT, dS_nat]
                have := TL.numL_len (n := n) (k := 3) (by decide) hn
                omega
              have lh : hd.length ≤ 640 := by
                have h13 : (TL.numL f.natAbs).length ≤ 12 := TL.numL_len (by decide) hf.2
                rw [hf.1, lenT]
                rcases dS_cases f with ⟨m, rfl, e⟩ | ⟨m, hm, rfl, e⟩ <;> rw [e]
                · rw [show ((m : Int)).natAbs = m by omega] at h13
                  omega
                · rw [show (-(m : Int)).natAbs = m by omega] at h13
                  simp only [List.length_cons]
                  omega
              have it : intText? tl = some (n : Int) := by rw [tn]; exact int_dS hn2
              have ih : intText? hd = some f := by rw [hf.1]; exact int_dS hf.2
              have yes : okT f n → isT x := fun ok => hT.2 ⟨hs, f, n, hf, tn, ok⟩
              have noT : ¬ okT f n → ¬ isT x := fun nok z => by
                obtain ⟨_, g, m, hg, tm, ok⟩ := hT.1 z
                have := isN_uni hg hf
                subst this
                have := dS_inj (tn.symm.trans tm)
                rw [← this] at ok
                exact nok ok
              walk_at "wi"
              refine r_intS it lt ?_
              walk_at "wi"
              refine ⟨fun h1n => ?_, fun h1n => ?_⟩
              · have h1n := of_decide_eq_true h1n
                walk_at "wi"
                refine ⟨fun h4 => ?_, fun h4 => ?_⟩
                · have h4 := of_decide_eq_true h4
                  walk_at "wi"
                  refine r_intS ih lh ?_
                  walk_at "wi"
                  refine r_intS it lt ?_
                  walk_at "wi"
                  refine r_I ⟨by decide, by decide, by decide⟩ ?_
                  walk_at "wi"
                  have e12 : (10 : Int) ^ (12 : Int).toNat = 10 ^ 12 := rfl
                  rw [e12]
                  by_cases ok : okT f n
                  · have ev : decide (f + (n : Int) < 10 ^ 12) = true := decide_eq_true ok.2.2.2
                    rw [ev]
                    exact h1 (yes ok) k3 e3 0
                  · have ev : decide (f + (n : Int) < 10 ^ 12) = false := decide_eq_false fun z => ok ⟨hf.2, h1n, h4, z⟩
                    rw [ev]
                    exact h2 (noT ok) k3 e3 0
                · have h4 := of_decide_eq_false h4
                  exact h2 (noT fun ok => h4 ok.2.2.1) k3 e3 0
              · have h1n := of_decide_eq_false h1n
                walk_at "wi"
                exact h2 (noT fun ok => h1n ok.2.1) k3 e3 0
            · walk_at "wi"
              refine h2 (fun z => ?_) k3 (ext_tr e2 ek3) 0
              obtain ⟨_, g, n, _, tn, ok⟩ := hT.1 z
              refine c3 ⟨n.toNat, ?_, ?_⟩
              · have := ok.2.1; have := ok.2.2.1
                have : (10 : Nat) ^ 3 = 1000 := by decide
                omega
              · rw [tn]
                congr 1
                have := ok.2.1
                congr 1
                omega
          · walk_at "wi"
            exact h2 (fun z => (hT.1 z).1 (V.str.inj (of_decide_eq_true hs))) k2 e2 0
        · walk_at "wi"
          refine h2 (fun z => ?_) k2 e2 0
          obtain ⟨_, f, n, hf, _⟩ := hT.1 z
          exact (isN_bare.2 ⟨f, hf⟩).2 (V.str.inj (of_decide_eq_true hm))
      · walk_at "wi"
        refine h2 (fun z => ?_) k2 (ext_tr e1 ek2) 0
        obtain ⟨_, f, n, hf, _⟩ := hT.1 z
        exact c12 (isN_bare.2 ⟨f, hf⟩).1
end

end NN

namespace NN
open PySem PySem.Spec PyProof.Rows L2 LamX AW ClX
-- a stay that is known
local macro_rules | `(tactic| walk_at "st") => `(tactic| first
  | assumption
  | ((with_reducible refine' StayAt.ext ?h1 ?h2); (case h1 => assumption); (case h2 => walk_at "st"))
  | ((with_reducible refine' StayAt.ext ?h1 ?h2); (case h1 => exact ext_new (by assumption)); (case h2 => walk_at "st")))
local macro_rules | `(tactic| walk_at "w2") => `(tactic| first
  | ((with_reducible refine' w_first ?h1 ?h2 ?h3 ?h4 ?_); (case h3 => rfl); (case h4 => walk_at "st"); (case h1 => assumption); (case h2 => assumption))
  | ((with_reducible refine' w_after ?h1 ?h2 ?h3 ?h4 ?_); (case h3 => rfl); (case h4 => walk_at "st"); (case h1 => assumption); (case h2 => assumption))
  | ((with_reducible refine' w_nights ?h1 ?h2 ?h3 ?h4 ?_); (case h3 => rfl); (case h4 => walk_at "st"); (case h1 => assumption); (case h2 => assumption)))
local macro_rules | `(tactic| walk_at "w") => `(tactic| repeat (first | walk_at "w1" | walk_at "w2" | dsimp only))
local macro_rules | `(tactic| walk_at "wi") => `(tactic| repeat (first | walk_at "w1" | walk_at "w2" | with_reducible refine' s_if ?_ | dsimp only))

open Tx1
section
variable {P : Program} {w : World} {K : PySem.W.Frag} {mg : Str → Option Value} {base : Heap}
theorem r_strSt {c : Cw} {kn : Hp} {n : Nat} {Q : V → Hp → Nat → Prop} {C s : Addr} {f e : Int} (st : StayAt C kn s f e) (q : Q (.str (stayT f e)) kn n) : W c (rStrO C (liftX (bStr C)) [.ref s]) kn n Q := by
  obtain ⟨dx, p, a1, b1⟩ := st.at_
  exact r_strO mo_str a1 ⟨s, f, e, rfl, st, _, rfl, q⟩
def EAh3 (T : Tx K mg) (Q : V → Hp → Nat → Prop) : EAK := fun cls d kn n =>
  cls = .ref T.c_BadText ∧ ∃ dd y z, d = some dd ∧ kn dd = some (.xd [("word", z), ("line", y)]) ∧ ∀ q kn2, Ext kn kn2 → kn q = none → kn2 q = some (.tup [y, z]) → Q (.ref q) kn2 n
def TTh3 (T : Tx K mg) : (XK → Hp → VK → Prop) → Hp → VK → Prop := fun tl H Q => ∃ (c : Cw) (kn : Hp) (n : Nat) (QA : V → Hp → Nat → Prop), Good c kn n H ∧ (∀ v kn' n' H', QA v kn' n' → Good c kn' n' H' → Q v H') ∧
  ∀ E, ErrOk c (EAh3 T QA) E → W c (fun H' Q' => tl E H' Q') kn n fun v kn1 n1 => ∃ s f e, v = .ref s ∧ StayAt T.c_Stay kn1 s f e ∧ ∀ q, kn1 q = none → QA (.ref q) (upd kn1 q (.lst [.str (stayT f e)])) n1
theorem w_lam3 (T : Tx K mg) {p a : Addr} {ns : List Int} {TT : List (Addr × Str)} {kn : Hp} {n : Nat} {σ : L2.St} {Q : V → Hp → Nat → Prop} {tt : XK → TE}
    (h : ∀ E, ErrOk (penC p a ns TT) (EAh3 T Q) E → W (penC p a ns TT) (tt E σ) kn n fun v kn1 n1 => ∃ s f e, v = .ref s ∧ StayAt T.c_Stay kn1 s f e ∧ ∀ q, kn1 q = none → Q (.ref q) (upd kn1 q (.lst [.str (stayT f e)])) n1) : W (penC p a ns TT) (tLam TT (TTh3 T) tt σ) kn n Q :=
  fun H g Q' q => ⟨g.inv.2, fun H1 e hT => ⟨penC p a ns TT, kn, n, Q, good_lam g e hT, q, h⟩⟩
/-- _law_heard -/
theorem gives_heard (T : Tx K mg) {X : Cx} {q : Str} {cdg : Value} (hP : X.prog = P) (hw : X.w = w) (hK : X.K = K) (hmg : X.mg = mg) (hrX : Room 8 X.A) : GivesTo X ["ask", "caught", "found", "error"] "_law_heard" (defScope s__law_heard) T.f__law_heard cdg (defBody s__law_heard) "ask" q (TTh3 T) := by
  subst hP hw hK hmg
  intro f c' s H Q tl hask hc hTT
  obtain ⟨c, kn, n, QA, g, hQ, hb⟩ := hTT
  have hr := hrX.deeper (envOfC "_law_heard" (defScope s__law_heard) s.heap.objs.size T.f__law_heard cdg)
  refine ⟨_, (pss_cons (ps_asg (pe_tup (pa_cons pe_non (pa_cons pe_non pa_nil))) (pg_tup (by rfl) (pgs_cons (pg_name (i := 1) sc__law_heard.nd rfl (by first | exact Or.inl rfl | exact Or.inr rfl)) (pgs_cons (pg_name (i := 2) sc__law_heard.nd rfl (by first | exact Or.inl rfl | exact Or.inr rfl)) pgs_nil))))
       (pss_cons (ps_try_keep (i := 3) rfl rfl rfl sc__law_heard.nd rfl rfl ⟨(by rfl), (by decide), .inl T.g_StayError⟩ (fun W pn xe tk po =>
       (pss_one (ps_set (i := 2) sc__law_heard.nd rfl (by first | exact Or.inl rfl | exact Or.inr rfl) (hask (fun cls d σ H => σ.length = 4 → W cls d σ H) _ _ (fun cls d H' => ∀ σ', σ'.length = 4 → W cls d σ' H') _ _ (takes_len tk) (fun _ _ σ' _ h hl => h σ' hl))))) (fun aX oX clsX dX pnX zX vX =>
       (pss_one (ps_set (i := 1) sc__law_heard.nd rfl (by first | exact Or.inl rfl | exact Or.inr rfl) (pv 3)))))
       (pss_cons (ps_if (pt_cmpR c_isN (pv 1) pe_non (nomark _))
       (pss_one (ps_ret (pe_lst (pa_cons (pe_callTy (c_strO T.sm_Stay___str__ (ok_Stay___str__ T) (hr.mono (by decide)) T.bd_Stay___str__ pass0) (by rfl) T.b_str (by decide +kernel) (pa_cons (pv 2) pa_nil)) pa_nil))))
       pss_nil)
       (pss_one (ps_ret (pe_ifExp (pt_val (pe_callB call_isK (by rfl) T.b_isinstance (by decide +kernel) (pa_cons (pv 1) (pa_cons (pe_glob (v := .ref T.c_BadText) (by rfl) T.g_BadText rfl) pa_nil)))) (pe_tup (pa_cons (pe_xk (pv 1)) (pa_cons (pe_xk (pv 1)) pa_nil))) (pe_tup (pa_cons pe_str (pa_cons pe_non pa_nil))))))))), ?_⟩
  refine ⟨by rw [sizeLine_eq]; exact (show 2 ≤ 16777216 by decide), fun q0 hq0 => ⟨q0, [.non, .non], rfl, sqt upd_same, rfl, .non, [.non], rfl, .non, [], rfl, rfl, rfl, ?_⟩⟩
  have g1 : Good c kn n (upd H q0 (.tup [.non, .non])) := g.ext (fun x o e => by rw [upd_ne (ne_of_none e hq0)]; exact e)
  have hc1 : (upd H q0 (.tup [.non, .non])) c' = some (CodeO c' q) := by rw [upd_ne (ne_of_none hc hq0)]; exact hc
  refine ⟨hc1, ?_⟩
  refine hb _ ?err _ g1 _ ?post
  case post =>
    rintro v kn1 n1 H2 ⟨s1, f1, e1, rfl, st, hq⟩ g2
    unfold gName
    dsimp only
    refine body_of (c := c) g2 ?_
    walk_at "wi"
    refine r_strSt st ?_
    walk_at "wi"
    refine ⟨show 1 ≤ 1000 by decide, fun p hp => ?_⟩
    exact fun H' g' => hQ _ _ _ _ (hq p hp) g'
  case err =>
    rintro cls d kn1 n1 H2 ⟨rfl, dd, y, z, rfl, hd, he⟩ g2
    intro σ' hσ
    refine ⟨T.exm_BadText, fun a ha => ?_⟩
    have hσ' : ∃ x0 x1 x2 x3, σ' = [x0, x1, x2, x3] := by
      match σ', hσ with
      | [x0, x1, x2, x3], _ => exact ⟨x0, x1, x2, x3, rfl⟩
    obtain ⟨x0, x1, x2, x3, rfl⟩ := hσ'
    refine ⟨_, rfl, ?_⟩
    unfold gName
    dsimp only
    refine body_of (c := c) (g2.new (o := exh a (.ref T.c_BadText) (some dd)) ha) ?_
    walk_at "wi"
    have had : dd ≠ a := fun z => by have := g2.ex _ _ hd; rw [z, ha] at this; cases this
    have hd2 : (upd kn1 a (exh a (.ref T.c_BadText) (some dd))) dd = some (.xd [("word", z), ("line", y)]) := by rw [upd_ne had]; exact hd
    have ex1 := ext_new (o := exh a (.ref T.c_BadText) (some dd)) (g2.free ha)
    refine r_isK (.own _) upd_same hd2 T.xc_BadText T.kit_BadText ?_
    walk_at "wi"
    refine w_xk ?_
    walk_at "wi"
    refine ⟨_, _, _, _, y, rfl, upd_same, hd2, T.xf_BadText, T.nx_BadText_line, rfl, ?_⟩
    walk_at "wi"
    refine w_xk ?_
    walk_at "wi"
    refine ⟨_, _, _, _, z, rfl, upd_same, hd2, T.xf_BadText, T.nx_BadText_word, rfl, ?_⟩
    walk_at "wi"
    refine ⟨show 2 ≤ 1000 by decide, fun p hp => ?_⟩
    exact fun H' g' => hQ _ _ _ _ (he p _ (ext_tr ex1 (ext_new hp)) (free_ext ex1 hp) upd_same) g'
end

end NN

namespace NN
open PySem PySem.Spec PyProof.Rows L2 LamX AW ClX
-- a stay that is known
local macro_rules | `(tactic| walk_at "st") => `(tactic| first
  | assumption
  | ((with_reducible refine' StayAt.ext ?h1 ?h2); (case h1 => assumption); (case h2 => walk_at "st"))
  | ((with_reducible refine' StayAt.ext ?h1 ?h2); (case h1 => exact ext_new (by assumption)); (case h2 => walk_at "st")))
local macro_rules | `(tactic| walk_at "w2") => `(tactic| first
  | ((with_reducible refine' w_first ?h1 ?h2 ?h3 ?h4 ?_); (case h3 => rfl); (case h4 => walk_at "st"); (case h1 => assumption); (case h2 => assumption))
  | ((with_reducible refine' w_after ?h1 ?h2 ?h3 ?h4 ?_); (case h3 => rfl); (case h4 => walk_at "st"); (case h1 => assumption); (case h2 => assumption))
  | ((with_reducible refine' w_nights ?h1 ?h2 ?h3 ?h4 ?_); (case h3 => rfl); (case h4 => walk_at "st"); (case h1 => assumption); (case h2 => assumption)))
local macro_rules | `(tactic| walk_at "w") => `(tactic| repeat (first | walk_at "w1" | walk_at "w2" | dsimp only))
local macro_rules | `(tactic| walk_at "wi") => `(tactic| repeat (first | walk_at "w1" | walk_at "w2" | with_reducible refine' s_if ?_ | dsimp only))

open Tx1
def AscL (m : Nat) (x : Str) : Prop := (∀ c ∈ TL.tl x, c < 128) ∧ x.length ≤ m
theorem app_asc {a b : Nat} {x y : Str} (h : AscL a x) (k : AscL b y) : AscL (a + b) (x ++ y) := by
  refine ⟨fun c hc => ?_, by rw [PySem.Str.length_append]; have := h.2; have := k.2; omega⟩
  rw [TL.tl_append] at hc
  rcases List.mem_append.1 hc with z | z
  · exact h.1 c z
  · exact k.1 c z
theorem AscL.up {a b : Nat} {x : Str} (h : AscL a x) (l : a ≤ b) : AscL b x := ⟨h.1, Nat.le_trans h.2 l⟩
theorem cut_asc {a : Nat} {x : Str} (h : AscL a x) (lo hi : Option Int) : AscL a (cutS x lo hi) := by
  unfold cutS
  refine ⟨fun c hc => h.1 c (List.mem_of_mem_drop (List.mem_of_mem_take (by simpa [TL.tl] using hc))), ?_⟩
  have := h.2
  rw [lenT] at this ⊢
  refine Nat.le_trans ?_ this
  simp [TL.tl]
  omega
theorem rev_asc {a : Nat} {x : Str} (h : AscL a x) : AscL a (revS x) := ⟨fun c hc => h.1 c (revS_sub x c hc), Nat.le_trans (revS_len x) h.2⟩
def signs : List Str := ["+", "-", "0", "1", "9", " ", "\n", "x", ".", "00", "401", ""]
theorem signs_asc : ∀ s ∈ signs, AscL 3 s := by
  have h : (signs.all fun s => (TL.tl s).all (fun c => decide (c < 128)) && decide (s.length ≤ 3)) = true := by decide +kernel
  intro s hs
  have := List.all_eq_true.1 h s hs
  simp only [Bool.and_eq_true, decide_eq_true_eq, List.all_eq_true] at this
  exact this
def bBent : List V → Hp → AK → AXK → Prop := fun vs kn Q _ => ∃ x : Str, vs = [.str x] ∧ AscL 200 x ∧ ∀ y k', Ext kn k' → AscL (3 * x.length + 3) y → Q (.str y) k'
theorem mo_bent : MonoX bBent := by
  rintro vs kn Q R E F h1 h2 ⟨x, a, b, d⟩
  exact ⟨x, a, b, fun y k z1 z2 => h1 _ _ (d y k z1 z2)⟩
section
variable {P : Program} {w : World} {K : PySem.W.Frag} {mg : Str → Option Value} {base : Heap}
def tabsT {K : PySem.W.Frag} {mg : Str → Option Value} (T : Tx K mg) : List (Addr × Str) := [(T.tp_law, "law.<locals>.<lambda>")]
theorem ok__law_bent (T : Tx K mg) (TT : List (Addr × Str)) : FnOk P w K mg base CX0 3 T.f__law_bent T.d__law_bent ["pen", "line"] (liftP (tabsT T) 3 bBent) := by
  refine T.F__law_bent.ok sc__law_bent (fun vs H Q E h => ?_) (fun cdv A outer s H vs Q E hr h => ?_)
  · obtain ⟨p, a, ns, n, kn, ws, rfl, _, _, x, rfl, _⟩ := h
    rfl
  · obtain ⟨p, a, ns, n, kn, ws, rfl, g, hn, x, rfl, ⟨ax, lx⟩, h⟩ := h
    refine ⟨_, (pss_cons (ps_par (i := 2) (j := 3) (by rfl) sc__law_bent.nd rfl rfl (by decide) rfl rfl (pa_cons (pe_call (ok__law_draw T) (hr.mono (by decide)) (by rfl) T.g__law_draw T.F__law_draw.kp T.bd__law_draw .nil pass0 (pa_cons (pv 0) (pa_cons pe_int pa_nil))) (pa_cons (pe_call (ok__law_draw T) (hr.mono (by decide)) (by rfl) T.g__law_draw T.F__law_draw.kp T.bd__law_draw .nil pass0 (pa_cons (pv 0) (pa_cons (pe_op op_add (pe_callB c_lenS (by rfl) T.b_len PySem.boot_len (pa_cons (pv 1) pa_nil)) pe_int) pa_nil))) pa_nil)) (by rfl))
       (pss_cons (ps_set (i := 4) sc__law_bent.nd rfl (by first | exact Or.inl rfl | exact Or.inr rfl) (pe_call (ok__law_pick T (tabsT T)) (hr.mono (by decide)) (by rfl) T.g__law_pick T.F__law_pick.kp T.bd__law_pick .nil pass0 (pa_cons (pv 0) (pa_cons (pe_lst (pa_cons pe_str (pa_cons pe_str (pa_cons pe_str (pa_cons pe_str (pa_cons pe_str (pa_cons pe_str (pa_cons pe_str (pa_cons pe_str (pa_cons pe_str (pa_cons pe_str (pa_cons pe_str (pa_cons pe_str pa_nil))))))))))))) pa_nil))))
       (pss_cons (ps_if (pt_cmpR op_eq (pv 2) pe_int (nomark _))
       (pss_one (ps_ret (pe_op op_addT (pe_slice sl_str (pv 1) po_none (po_some (pv 3))) (pe_slice sl_str (pv 1) (po_some (pe_op op_add (pv 3) pe_int)) po_none))))
       pss_nil)
       (pss_cons (ps_if (pt_cmpR op_eq (pv 2) pe_int (nomark _))
       (pss_one (ps_ret (pe_op op_addT (pe_op op_addT (pe_slice sl_str (pv 1) po_none (po_some (pv 3))) (pv 4)) (pe_slice sl_str (pv 1) (po_some (pv 3)) po_none))))
       pss_nil)
       (pss_cons (ps_if (pt_cmpR op_eq (pv 2) pe_int (nomark _))
       (pss_one (ps_ret (pe_op op_addT (pe_op op_addT (pe_slice sl_str (pv 1) po_none (po_some (pv 3))) (pe_revS (pe_slice sl_str (pe_slice sl_str (pv 1) (po_some (pv 3)) po_none) po_none (po_some pe_int)))) (pe_slice sl_str (pv 1) (po_some (pe_op op_add (pv 3) pe_int)) po_none))))
       pss_nil)
       (pss_one (ps_ret (pe_op op_addT (pe_op op_addT (pe_slice sl_str (pv 1) po_none (po_some (pv 3))) (pv 4)) (pe_slice sl_str (pv 1) (po_some (pe_op op_add (pv 3) pe_int)) po_none))))))))), ?_⟩
    refine body_of g ?_
    walk_at "wi"
    refine w_draw ?_
    walk_at "wi"
    refine ⟨by omega, by decide, by decide, fun way y0 y1 => ?_⟩
    walk_at "wi"
    refine w_draw ?_
    walk_at "wi"
    refine r_lenS (by omega) ?_
    walk_at "wi"
    refine ⟨by omega, by omega, by omega, fun at_ t0 t1 => ?_⟩
    walk_at "wi"
    refine ⟨_, _, rfl, ?_⟩
    refine s_seq (s_set ?_)
    refine w_callP mo_pick err_no ?_
    walk_at "w"
    refine ⟨by decide, fun l hl => ?_⟩
    walk_at "w"
    have e1 : Ext kn (upd kn l (.lst (signs.map V.str))) := ext_new hl
    have l1 : (upd kn l (.lst (signs.map V.str))) l = some (.lst (signs.map V.str)) := upd_same
    refine ⟨by omega, l, signs.map V.str, rfl, l1, by decide, by decide, fun v hv => ?_⟩
    obtain ⟨sg, hsg, rfl⟩ := List.mem_map.1 hv
    have as := signs_asc sg hsg
    refine (fun (k1 : Hp) (e2 : Ext kn k1) => ?_ : ∀ k1, Ext kn k1 → WS _ _ _ _ k1 _) _ e1
    have al : AscL x.length x := ⟨ax, Nat.le_refl _⟩
    have fin : ∀ y, AscL (3 * x.length + 3) y → ∀ H', Good (penC p a ns (tabsT T)) k1 (n + 1 + 1 + 1) H' → Q (.str y) H' := fun y hy => h y k1 e2 hy
    have cL : ∀ lo hi, (cutS x lo hi).length ≤ 200 := fun lo hi => Nat.le_trans (cut_asc al lo hi).2 lx
    have sL := as.2
    have cA : ∀ lo hi, AscL x.length (cutS x lo hi) := fun lo hi => cut_asc al lo hi
    walk_at "wi"
    refine ⟨fun _ => ?_, fun _ => ?_⟩
    · walk_at "wi"
      refine r_slS (by omega) ?_
      walk_at "wi"
      refine r_slS (by omega) ?_
      walk_at "wi"
      refine r_addT (by have := cL none (some at_); have := cL (some (at_ + 1)) none; omega) ?_
      exact fin _ ((app_asc (cA _ _) (cA _ _)).up (by omega))
    · walk_at "wi"
      refine ⟨fun _ => ?_, fun _ => ?_⟩
      · walk_at "wi"
        refine r_slS (by omega) ?_
        walk_at "wi"
        refine r_addT (by have := cL none (some at_); omega) ?_
        walk_at "wi"
        refine r_slS (by omega) ?_
        walk_at "wi"
        refine r_addT (by rw [PySem.Str.length_append]; have := cL none (some at_); have := cL (some at_) none; omega) ?_
        exact fin _ ((app_asc (app_asc (cA _ _) as) (cA _ _)).up (by omega))
      · walk_at "wi"
        refine ⟨fun _ => ?_, fun _ => ?_⟩
        · walk_at "wi"
          refine r_slS (by omega) ?_
          walk_at "wi"
          refine w_revS ?_
          walk_at "wi"
          refine r_slS (by omega) ?_
          walk_at "wi"
          refine r_slS (by have := cL (some at_) none; omega) ?_
          have rA := rev_asc (cut_asc (cA (some at_) none) none (some 2))
          have rB := (cut_asc (cA (some at_) none) none (some 2)).2
          have rC := rA.2
          refine ⟨_, rfl, by omega, ?_⟩
          walk_at "wi"
          refine r_addT (by have := cL none (some at_); omega) ?_
          walk_at "wi"
          refine r_slS (by omega) ?_
          walk_at "wi"
          refine r_addT (by rw [PySem.Str.length_append]; have := cL none (some at_); have := cL (some (at_ + 2)) none; omega) ?_
          exact fin _ ((app_asc (app_asc (cA _ _) rA) (cA _ _)).up (by omega))
        · walk_at "wi"
          refine r_slS (by omega) ?_
          walk_at "wi"
          refine r_addT (by have := cL none (some at_); omega) ?_
          walk_at "wi"
          refine r_slS (by omega) ?_
          walk_at "wi"
          refine r_addT (by rw [PySem.Str.length_append]; have := cL none (some at_); have := cL (some (at_ + 1)) none; omega) ?_
          exact fin _ ((app_asc (app_asc (cA _ _) as) (cA _ _)).up (by omega))
end

end NN

namespace NN
open PySem PySem.Spec PyProof.Rows L2 LamX AW ClX
-- a stay that is known
local macro_rules | `(tactic| walk_at "st") => `(tactic| first
  | assumption
  | ((with_reducible refine' StayAt.ext ?h1 ?h2); (case h1 => assumption); (case h2 => walk_at "st"))
  | ((with_reducible refine' StayAt.ext ?h1 ?h2); (case h1 => exact ext_new (by assumption)); (case h2 => walk_at "st")))
local macro_rules | `(tactic| walk_at "w2") => `(tactic| first
  | ((with_reducible refine' w_first ?h1 ?h2 ?h3 ?h4 ?_); (case h3 => rfl); (case h4 => walk_at "st"); (case h1 => assumption); (case h2 => assumption))
  | ((with_reducible refine' w_after ?h1 ?h2 ?h3 ?h4 ?_); (case h3 => rfl); (case h4 => walk_at "st"); (case h1 => assumption); (case h2 => assumption))
  | ((with_reducible refine' w_nights ?h1 ?h2 ?h3 ?h4 ?_); (case h3 => rfl); (case h4 => walk_at "st"); (case h1 => assumption); (case h2 => assumption)))
local macro_rules | `(tactic| walk_at "w") => `(tactic| repeat (first | walk_at "w1" | walk_at "w2" | dsimp only))
local macro_rules | `(tactic| walk_at "wi") => `(tactic| repeat (first | walk_at "w1" | walk_at "w2" | with_reducible refine' s_if ?_ | dsimp only))

open Tx1
theorem nf_self {K : PySem.W.Frag} {C : Addr} : PySem.W.notFirst K C (.ref C) = true := by
  unfold PySem.W.notFirst
  simp
theorem line_txt (b m : Int) : ((dS b ++ Str.ofString "+") ++ dS m) = txt b m := by rw [plus_eq]; rfl
theorem stayT_txt (f n : Int) : stayT f (f + n) = txt f n := by
  rw [← line_txt, show n = f + n - f by omega, show f + (f + n - f) = f + n by omega]
  apply ext_str
  unfold stayT
  rw [TL.tl_append, TL.tl_append, TL.tl_append, TL.tl_append, TL.tl_append]
  rfl
theorem asc_txt {f n : Int} (h : okT f n) : AscL 30 (txt f n) := by
  obtain ⟨h1, h2, h3, h4⟩ := h
  have a : AscL 14 (dS f) := ⟨ascii_dS f, len_small (by omega) (by omega)⟩
  have b : AscL 14 (dS n) := ⟨ascii_dS n, len_small (by omega) (by omega)⟩
  have p : AscL 1 plusS := ⟨by decide, by decide⟩
  exact (app_asc (app_asc a p) b).up (by decide)
theorem AscL.asc {m : Nat} {x : Str} (h : AscL m x) (l : m ≤ 1000) : Asc x := ⟨h.1, Nat.le_trans h.2 l⟩
theorem ok_asc {m : Nat} {x : Str} (h : AscL m x) : PyData.strOk x = true := by
  unfold PyData.strOk
  rw [Array.all_eq_true']
  intro c hc
  have := h.1 c (by simpa [TL.tl] using hc)
  refine decide_eq_true ?_
  omega
theorem dp_pair {K : PySem.W.Frag} {H : Hp} (x y : Int) : DpAll K H [V.int x, V.int y] [PyData.int x, PyData.int y] := .cons (.int _) (.cons (.int _) .nil)
theorem not_T {x : Str} (h : (TL.tl x).length ≤ 1) : ¬ isT x := by
  rintro ⟨f, n, ok, rfl⟩
  rw [tl_txt, List.length_append, List.length_cons] at h
  have hn : dS n = dS ((n.toNat : Nat) : Int) := by rw [Int.toNat_of_nonneg (by have := ok.2.1; omega)]
  have := (cnt_no (k := 12) (w := dS n) (by decide) ⟨n.toNat, Nat.lt_of_le_of_lt (show n.toNat ≤ 400 by have := ok.2.2.1; omega) (by decide), hn⟩).2.1
  have := List.length_pos_iff.2 this
  omega
theorem not_T2 {x : Str} {f n : Int} (h : x = txt f n) (nok : ¬ okT f n) : ¬ isT x := by
  rintro ⟨g, m, ok, e⟩
  obtain ⟨rfl, rfl⟩ := txt_inj (e.symm.trans h)
  exact nok ok
theorem keep_ne {kn : Hp} {l q : Addr} {o v : HO} (n : q ≠ l) (e : kn q = some v) : upd kn l o q = some v := by
  rw [upd_ne n]
  exact e
theorem ne_known {kn : Hp} {l q : Addr} {v : HO} (h : kn l = some v) (n : kn q = none) : q ≠ l := fun z => by rw [z, h] at n; cases n
theorem day_of {i : Int} (h : -999999999999 ≤ i ∧ i ≤ 999999999999) : isDay i := h
theorem read_ok {f n : Int} (h1 : -999999999999 ≤ f) (h2 : f ≤ 999999999999) (h3 : 1 ≤ n) (h4 : n ≤ 400) (h5 : f + n ≤ 999999999999) : okT f n := ⟨by omega, h3, h4, by omega⟩
section
variable {P : Program} {w : World} {K : PySem.W.Frag} {mg : Str → Option Value} {base : Heap}
theorem w_neS (T : Tx K mg) {c : Cw} {kn : Hp} {n : Nat} {Q : V → Hp → Nat → Prop} {s s' : Addr} {f e f' e' : Int} (st : StayAt T.c_Stay kn s f e) (st' : StayAt T.c_Stay kn s' f' e') (h1 : f = f') (h2 : e = e') (q : Q (.bl false) kn n) : W c (rEqO K T.c_Stay (liftX (bEq K T.c_Stay)) true (.ref s) (.ref s')) kn n Q := by
  obtain ⟨dx, p, a1, b1⟩ := st.at_
  obtain ⟨dx', p', a2, b2⟩ := st'.at_
  refine r_eqO mo_eq a1 (T.own_Stay.ty a2) nf_self ⟨_, _, _, _, rfl, st, .inl ⟨_, _, _, rfl, st', _, rfl, ?_⟩⟩
  rw [decide_eq_true h1, decide_eq_true h2]
  exact q
/-- Stay.read(t) in a lambda that is heard -/
theorem w_read (T : Tx K mg) {p a : Addr} {ns : List Int} {TT : List (Addr × Str)} {kn : Hp} {n : Nat} {σ : L2.St} {Q : V → Hp → Nat → Prop} {te : TE} {t : Str}
    (hte : ∀ Q' : V → Hp → Nat → Prop, Q' (.str t) kn n → W (penC p a ns TT) (te σ) kn n Q') (ha : Asc t)
    (h1 : isT t → ∀ q kn', Ext kn kn' → kn q = none → kn' q = some (.lst [.str t]) → Q (.ref q) kn' n)
    (h2 : ¬ isT t → ∀ q kn', Ext kn kn' → kn q = none → kn' q = some (.tup [.int 0, .int 0]) → Q (.ref q) kn' n) :
    W (penC p a ns TT) (tLam TT (TTh3 T) (fun EE => tCMeth T.c_Stay (liftX (bRead K T.c_Stay T.c_BadText)) EE (tC (.ref T.c_Stay)) (tCons te tNil)) σ) kn n Q := by
  refine w_lam3 T fun E hE => ?_
  refine w_cmeth mo_read hE ?_
  walk_at "w"
  refine ⟨rfl, ?_⟩
  refine w_cons (hte _ ?_)
  walk_at "w"
  refine ⟨_, rfl, .inl ⟨t, rfl, ha, fun f m ok et s kn1 e1 n1 st => ?_, fun nt d kn1 e1 n1 hd => ?_⟩⟩
  · refine ⟨s, f, f + m, rfl, st, fun q hq => ?_⟩
    rw [stayT_txt, ← et]
    exact h1 ⟨f, m, ok, et⟩ q _ (ext_tr e1 (ext_new hq)) (free_ext e1 hq) upd_same
  · exact ⟨rfl, d, _, _, rfl, hd, fun q kn2 e2 nq q1 => h2 nt q kn2 (ext_tr e1 e2) (free_ext e1 nq) q1⟩
theorem w_readOdd (T : Tx K mg) {p a : Addr} {ns : List Int} {TT : List (Addr × Str)} {kn : Hp} {n : Nat} {σ : L2.St} {Q : V → Hp → Nat → Prop} {te : TE} {v : V}
    (hte : ∀ Q' : V → Hp → Nat → Prop, Q' v kn n → W (penC p a ns TT) (te σ) kn n Q') (h : (∃ t, v = .str t ∧ Asc t ∧ ¬ isT t) ∨ ∃ ty, TyX K kn v ty ∧ PySem.W.kitOne K ty (.type "str") = some false)
    (h2 : ∀ q kn', Ext kn kn' → kn' q = some (.tup [.int 0, .int 0]) → Q (.ref q) kn' n) :
    W (penC p a ns TT) (tLam TT (TTh3 T) (fun EE => tCMeth T.c_Stay (liftX (bRead K T.c_Stay T.c_BadText)) EE (tC (.ref T.c_Stay)) (tCons te tNil)) σ) kn n Q := by
  refine w_lam3 T fun E hE => ?_
  refine w_cmeth mo_read hE ?_
  walk_at "w"
  refine ⟨rfl, ?_⟩
  refine w_cons (hte _ ?_)
  walk_at "w"
  have bad : BadT T.c_BadText kn fun cls d k => EAh3 T Q cls d k n := fun d kn1 e1 n1 hd => ⟨rfl, d, _, _, rfl, hd, fun q kn2 e2 nq q1 => h2 q kn2 (ext_tr e1 e2) q1⟩
  rcases h with ⟨t, rfl, ha, nt⟩ | ⟨ty, hty, kt⟩
  · exact ⟨_, rfl, .inl ⟨t, rfl, ha, fun f m ok et => absurd ⟨f, m, ok, et⟩ nt, fun _ => bad⟩⟩
  · exact ⟨_, rfl, .inr ⟨ty, hty, kt, bad⟩⟩
end
section
variable {P : Program} {w : World} {K : PySem.W.Frag} {mg : Str → Option Value} {base : Heap}
theorem Fun.kbn {K : PySem.W.Frag} {x qual : Str} {st : Stmt} {f : Addr} {fd : FuncData} {ps : List Str} (F : Fun K x qual st f fd) (n : Nat) (ks : List Str) (g : {α : Type} → List α → List α → List α)
    (hrel : ∀ {vs zs : List V} {us ws : List Value}, Vals vs us → Vals zs ws → Vals (g vs zs) (g us ws))
    (h : ∀ (kV doc pm : Value) (an : Option Addr) (cdv ct : Value) (us ws : List Value), us.length = n → ws.length = ks.length → bindArgs (PySem.W.fnOf x qual (defArgs st) (defBody st) (defScope st) .none kV doc pm an cdv ct) ⟨us, ks.zip ws⟩ = pure (ps.zip (g us ws))) : KBn K fd ps n ks g g := by
  obtain ⟨oc, od, kV, doc, pm, an, cdv, ct, osl, rfl, lk, hcd⟩ := F.ex
  exact ⟨fun s us ws X l1 l2 => BindsTo.of_eq (h kV doc pm an cdv ct us ws l1 l2), hrel⟩
abbrev gRev {α : Type} (us ws : List α) : List α := us ++ ws.reverse
theorem rel_rev {vs zs : List V} {us ws : List Value} (h : Vals vs us) (k : Vals zs ws) : Vals (gRev vs zs) (gRev us ws) := h.append k.reverse
theorem kb_read (T : Tx K mg) : KBn K T.d_Stay_read ["cls", "text"] 1 ["text"] gRev gRev :=
  Fun.kbn T.F_Stay_read 1 ["text"] gRev rel_rev fun _ _ _ _ _ _ us ws l1 l2 => match us, ws, l1, l2 with | [_], [_], _, _ => rfl
theorem oR_Stay_read (T : Tx K mg) : FnR P w K mg base (L2.CX P w) 6 T.f_Stay_read (liftX (bRead K T.c_Stay T.c_BadText)) :=
  ((ok_Stay_read T).raw T.bd_Stay_read .nil).imp fun vs H Q E h => by rw [List.append_nil]; exact h
theorem tabs_law (T : Tx K mg) : ∀ p ∈ tabsT T, p.1 = T.tp_law → p.2 = "law.<locals>.<lambda>" := by
  intro p hp _
  rcases List.mem_cons.mp hp with rfl | hp
  · rfl
  · cases hp
def spLaw {K : PySem.W.Frag} {mg : Str → Option Value} (T : Tx K mg) : Sp := fun vs H Q _ => ∃ (sc : Addr) (ns : List Int), vs = [.ref sc] ∧ SqL K H sc (ns.map V.int) ∧ Tabs (tabsT T) H ∧ ∀ H', Q (.bl true) H'
theorem gname_run {i : Nat} {v : V} {σ : L2.St} {H : Hp} {N : L2.St → Hp → Prop} (h : N (σ.set i (some v)) H) : gName i v σ H N := h
theorem tabs_new {T : List (Addr × Str)} {H : Hp} (h : ∀ p ∈ T, H p.1 = some (.tbl #[])) : Tabs T H := fun p hp => ⟨#[], h p hp, by simp [TriplesOk], fun pos cv hc => by simp [codeAmong] at hc⟩
theorem ok_law (T : Tx K mg) (TB : TabB base mg T.cc_law T.tp_law) : L2.FnG P w K mg base CX0 40 T.f_law T.d_law ["script"] (spLaw T) := by
  obtain ⟨oc, od, kV, doc, pm, an, cdH, ct, osl, hfd, lkH, hcdH⟩ := T.F__law_heard.ex
  have bdH := T.bd__law_heard
  rw [hfd] at bdH lkH
  refine T.F_law.okGC sc_law (fun vs H Q E h => ?_) (fun A outer s H vs Q E hr hg h => ?_)
  · obtain ⟨sc, ns, rfl, _⟩ := h
    rfl
  · obtain ⟨sc, ns, rfl, hs, hT, h⟩ := h
    have cS := T.cl_Stay; have nF := T.na_Stay_first; have nA := T.na_Stay_after; have nN := T.na_Stay__nights
    refine ⟨_, (pss_cons (ps_par (i := 1) (j := 2) (by rfl) sc_law.nd rfl rfl (by decide) rfl rfl (pa_cons (pe_call (ok__law_pen T) (hr.mono (by decide)) (by rfl) T.g__law_pen T.F__law_pen.kp T.bd__law_pen .nil pass0 (pa_cons (pv 0) pa_nil)) (pa_cons (pe_op op_sub (pe_op op_pow pe_int pe_int) pe_int) pa_nil)) (by rfl))
       (pss_cons (ps_for PassesOwn.never rfl (pi_range1 (by rfl) T.b_range (pa_cons pe_int pa_nil)) (pg_name (i := 3) sc_law.nd rfl (by first | exact Or.inl rfl | exact Or.inr rfl))
       (pss_cons (ps_set (i := 4) sc_law.nd rfl (by first | exact Or.inl rfl | exact Or.inr rfl) (pe_op op_add pe_int (pe_call (ok__law_draw T) (hr.mono (by decide)) (by rfl) T.g__law_draw T.F__law_draw.kp T.bd__law_draw .nil pass0 (pa_cons (pv 1) (pa_cons (pe_call (ok__law_pick T (tabsT T)) (hr.mono (by decide)) (by rfl) T.g__law_pick T.F__law_pick.kp T.bd__law_pick .nil pass0 (pa_cons (pv 1) (pa_cons (pe_lst (pa_cons pe_int (pa_cons pe_int (pa_cons pe_int (pa_cons pe_int pa_nil))))) pa_nil))) pa_nil)))))
       (pss_cons (ps_set (i := 5) sc_law.nd rfl (by first | exact Or.inl rfl | exact Or.inr rfl) (pe_call (ok__law_pick T (tabsT T)) (hr.mono (by decide)) (by rfl) T.g__law_pick T.F__law_pick.kp T.bd__law_pick .nil pass0 (pa_cons (pv 1) (pa_cons (pe_lst (pa_cons (pe_op op_sub (pe_call (ok__law_draw T) (hr.mono (by decide)) (by rfl) T.g__law_draw T.F__law_draw.kp T.bd__law_draw .nil pass0 (pa_cons (pv 1) (pa_cons pe_int pa_nil))) pe_int) (pa_cons (pe_op op_sub pe_int (pv 2)) (pa_cons (pe_op op_sub (pv 2) (pv 4)) (pa_cons (pe_op op_sub pe_int (pe_call (ok__law_draw T) (hr.mono (by decide)) (by rfl) T.g__law_draw T.F__law_draw.kp T.bd__law_draw .nil pass0 (pa_cons (pv 1) (pa_cons (pe_op op_pow pe_int pe_int) pa_nil)))) pa_nil))))) pa_nil))))
       (pss_cons (ps_par (i := 6) (j := 7) (by rfl) sc_law.nd rfl rfl (by decide) rfl rfl (pa_cons (pe_make T.mk_Stay (ok_Stay___init__ T) (hr.mono (by decide)) (by rfl) T.g_Stay T.bd_Stay___init__ .nil passLN (pa_cons (pv 5) (pa_cons (pe_op op_add (pv 5) (pv 4)) pa_nil))) (pa_cons (pe_op op_addT (pe_op op_addT (pe_callTy c_strI (by rfl) T.b_str (by decide +kernel) (pa_cons (pv 5) pa_nil)) pe_str) (pe_callTy c_strI (by rfl) T.b_str (by decide +kernel) (pa_cons (pv 4) pa_nil))) pa_nil)) (by rfl))
       (pss_cons (ps_if (PW.pt (pw_or (pt_cmpR op_ne (pe_callTy (c_strO T.sm_Stay___str__ (ok_Stay___str__ T) (hr.mono (by decide)) T.bd_Stay___str__ pass0) (by rfl) T.b_str (by decide +kernel) (pa_cons (pv 6) pa_nil)) (pv 7) (nomark _)) (pw_or (pt_cmpR (op_neO T.eq_Stay (ok_Stay___eq__ T) (hr.mono (by decide)) T.bd_Stay___eq__ pass0) (pe_cmeth (pe_glob (v := .ref T.c_Stay) (by rfl) T.g_Stay rfl) T.cr_Stay T.cm_Stay_read (oR_Stay_read T) (hr.mono (by decide)) passL (pa_cons (pv 7) pa_nil)) (pv 6) (nomark _)) (pw_or1 (pt_cmpR (op_neO T.eq_Stay (ok_Stay___eq__ T) (hr.mono (by decide)) T.bd_Stay___eq__ pass0) (pe_cmethKW (pe_glob (v := .ref T.c_Stay) (by rfl) T.g_Stay rfl) T.cr_Stay T.cm_Stay_read (ok_Stay_read T) (hr.mono (by decide)) (kb_read T) passL (pk_cons (pv 7) pk_nil)) (pv 6) (nomark _))))))
       (pss_one (ps_ret pe_bl))
       pss_nil)
       (pss_cons (ps_for PassesOwn.never rfl (pi_list (pe_lst (pa_cons (pe_call (ok__law_bent T (tabsT T)) (hr.mono (by decide)) (by rfl) T.g__law_bent T.F__law_bent.kp T.bd__law_bent .nil pass0 (pa_cons (pv 1) (pa_cons (pv 7) pa_nil))) (pa_cons (pe_call (ok__law_bent T (tabsT T)) (hr.mono (by decide)) (by rfl) T.g__law_bent T.F__law_bent.kp T.bd__law_bent .nil pass0 (pa_cons (pv 1) (pa_cons (pe_call (ok__law_bent T (tabsT T)) (hr.mono (by decide)) (by rfl) T.g__law_bent T.F__law_bent.kp T.bd__law_bent .nil pass0 (pa_cons (pv 1) (pa_cons (pv 7) pa_nil))) pa_nil))) pa_nil)))) (pg_name (i := 8) sc_law.nd rfl (by first | exact Or.inl rfl | exact Or.inr rfl))
       (pss_one (ps_if (pt_cmpR (op_neD hr.units) (pe_lamcall (T := tabsT T) (TT := TTh3 T) (t := fun EE => tCMeth T.c_Stay (liftX (bRead K T.c_Stay T.c_BadText)) EE (tC (.ref T.c_Stay)) (tCons (tVar 8) tNil)) (k := 14) (by rfl) T.g__law_heard T.F__law_heard.kp lkH hcdH bdH sc__law_heard rfl (Or.inl rfl) (gives_heard T rfl rfl rfl rfl (hr.mono (by decide))) TB T.code_law (by first | exact .head _ | exact .tail _ (.head _)) (tabs_law T) (hr.mono (by decide)) (lamS_by (sc := defScope s_law) (by decide +kernel)) rfl (fun _ _ _ _ _ => rfl) (fun AL outerL sL HL EL fL cL hr => (pe_cmeth (pe_glob (v := .ref T.c_Stay) (by rfl) T.g_Stay rfl) T.cr_Stay T.cm_Stay_read (oR_Stay_read T) (hr.mono (by decide)) (passes_call (takes_of rfl rfl rfl rfl) (fun _ _ _ _ h => h)) (pa_cons (pv 8) pa_nil)))) (pe_ifExp (pt_val (pe_call (ok__law_is_text T) (hr.mono (by decide)) (by rfl) T.g__law_is_text T.F__law_is_text.kp T.bd__law_is_text .nil pass0 (pa_cons (pv 8) pa_nil))) (pe_lst (pa_cons (pv 8) pa_nil)) (pe_tup (pa_cons pe_int (pa_cons pe_int pa_nil)))) (nomark _))
       (pss_one (ps_ret pe_bl))
       pss_nil)))
       (pss_cons (ps_set (i := 9) sc_law.nd rfl (by first | exact Or.inl rfl | exact Or.inr rfl) (pe_call (ok__law_pick T (tabsT T)) (hr.mono (by decide)) (by rfl) T.g__law_pick T.F__law_pick.kp T.bd__law_pick .nil pass0 (pa_cons (pv 1) (pa_cons (pe_lst (pa_cons pe_non (pa_cons pe_int (pa_cons pe_bl (pa_cons (pe_lst (pa_cons (pv 7) pa_nil)) (pa_cons (pe_tup (pa_cons (pv 7) pa_nil)) (pa_cons pe_dnewK (pa_cons pe_str (pa_cons pe_str (pa_cons (pv 6) (pa_cons (pe_op op_pow pe_int pe_int) pa_nil))))))))))) pa_nil))))
       (pss_one (ps_if (pt_cmpR (op_neD hr.units) (pe_lamcall (T := tabsT T) (TT := TTh3 T) (t := fun EE => tCMeth T.c_Stay (liftX (bRead K T.c_Stay T.c_BadText)) EE (tC (.ref T.c_Stay)) (tCons (tVar 9) tNil)) (k := 14) (by rfl) T.g__law_heard T.F__law_heard.kp lkH hcdH bdH sc__law_heard rfl (Or.inl rfl) (gives_heard T rfl rfl rfl rfl (hr.mono (by decide))) TB T.code_law (by first | exact .head _ | exact .tail _ (.head _)) (tabs_law T) (hr.mono (by decide)) (lamS_by (sc := defScope s_law) (by decide +kernel)) rfl (fun _ _ _ _ _ => rfl) (fun AL outerL sL HL EL fL cL hr => (pe_cmeth (pe_glob (v := .ref T.c_Stay) (by rfl) T.g_Stay rfl) T.cr_Stay T.cm_Stay_read (oR_Stay_read T) (hr.mono (by decide)) (passes_call (takes_of rfl rfl rfl rfl) (fun _ _ _ _ h => h)) (pa_cons (pv 9) pa_nil)))) (pe_tup (pa_cons pe_int (pa_cons pe_int pa_nil))) (nomark _))
       (pss_one (ps_ret pe_bl))
       pss_nil)))))))))
       (pss_cons (ps_set (i := 10) sc_law.nd rfl (by first | exact Or.inl rfl | exact Or.inr rfl) (pe_lst (pa_cons (pe_lamcall (T := tabsT T) (TT := TTh3 T) (t := fun EE => tCMeth T.c_Stay (liftX (bRead K T.c_Stay T.c_BadText)) EE (tC (.ref T.c_Stay)) (tCons (tC (.str "999999999999+1")) tNil)) (k := 14) (by rfl) T.g__law_heard T.F__law_heard.kp lkH hcdH bdH sc__law_heard rfl (Or.inl rfl) (gives_heard T rfl rfl rfl rfl (hr.mono (by decide))) TB T.code_law (by first | exact .head _ | exact .tail _ (.head _)) (tabs_law T) (hr.mono (by decide)) (lamS_by (sc := defScope s_law) (by decide +kernel)) rfl (fun _ _ _ _ _ => rfl) (fun AL outerL sL HL EL fL cL hr => (pe_cmeth (pe_glob (v := .ref T.c_Stay) (by rfl) T.g_Stay rfl) T.cr_Stay T.cm_Stay_read (oR_Stay_read T) (hr.mono (by decide)) (passes_call (takes_of rfl rfl rfl rfl) (fun _ _ _ _ h => h)) (pa_cons pe_str pa_nil)))) pa_nil)))
       (pss_cons (ps_expr (pe_bm PySem.F.plainAttrs_list PySem.F.slot_list_append PySem.F.type_list_append mt_append (pv 10) (pa_cons (pe_lamcall (T := tabsT T) (TT := TTh3 T) (t := fun EE => tCMeth T.c_Stay (liftX (bRead K T.c_Stay T.c_BadText)) EE (tC (.ref T.c_Stay)) (tCons (tC (.str "-999999999999+400")) tNil)) (k := 14) (by rfl) T.g__law_heard T.F__law_heard.kp lkH hcdH bdH sc__law_heard rfl (Or.inl rfl) (gives_heard T rfl rfl rfl rfl (hr.mono (by decide))) TB T.code_law (by first | exact .head _ | exact .tail _ (.head _)) (tabs_law T) (hr.mono (by decide)) (lamS_by (sc := defScope s_law) (by decide +kernel)) rfl (fun _ _ _ _ _ => rfl) (fun AL outerL sL HL EL fL cL hr => (pe_cmeth (pe_glob (v := .ref T.c_Stay) (by rfl) T.g_Stay rfl) T.cr_Stay T.cm_Stay_read (oR_Stay_read T) (hr.mono (by decide)) (passes_call (takes_of rfl rfl rfl rfl) (fun _ _ _ _ h => h)) (pa_cons pe_str pa_nil)))) pa_nil)))
       (pss_cons (ps_expr (pe_bm PySem.F.plainAttrs_list PySem.F.slot_list_append PySem.F.type_list_append mt_append (pv 10) (pa_cons (pe_lamcall (T := tabsT T) (TT := TTh3 T) (t := fun EE => tCMeth T.c_Stay (liftX (bRead K T.c_Stay T.c_BadText)) EE (tC (.ref T.c_Stay)) (tCons (tC (.str "0+401")) tNil)) (k := 14) (by rfl) T.g__law_heard T.F__law_heard.kp lkH hcdH bdH sc__law_heard rfl (Or.inl rfl) (gives_heard T rfl rfl rfl rfl (hr.mono (by decide))) TB T.code_law (by first | exact .head _ | exact .tail _ (.head _)) (tabs_law T) (hr.mono (by decide)) (lamS_by (sc := defScope s_law) (by decide +kernel)) rfl (fun _ _ _ _ _ => rfl) (fun AL outerL sL HL EL fL cL hr => (pe_cmeth (pe_glob (v := .ref T.c_Stay) (by rfl) T.g_Stay rfl) T.cr_Stay T.cm_Stay_read (oR_Stay_read T) (hr.mono (by decide)) (passes_call (takes_of rfl rfl rfl rfl) (fun _ _ _ _ h => h)) (pa_cons pe_str pa_nil)))) pa_nil)))
       (pss_cons (ps_expr (pe_bm PySem.F.plainAttrs_list PySem.F.slot_list_append PySem.F.type_list_append mt_append (pv 10) (pa_cons (pe_lamcall (T := tabsT T) (TT := TTh3 T) (t := fun EE => tCMeth T.c_Stay (liftX (bRead K T.c_Stay T.c_BadText)) EE (tC (.ref T.c_Stay)) (tCons (tC (.str "3+0")) tNil)) (k := 14) (by rfl) T.g__law_heard T.F__law_heard.kp lkH hcdH bdH sc__law_heard rfl (Or.inl rfl) (gives_heard T rfl rfl rfl rfl (hr.mono (by decide))) TB T.code_law (by first | exact .head _ | exact .tail _ (.head _)) (tabs_law T) (hr.mono (by decide)) (lamS_by (sc := defScope s_law) (by decide +kernel)) rfl (fun _ _ _ _ _ => rfl) (fun AL outerL sL HL EL fL cL hr => (pe_cmeth (pe_glob (v := .ref T.c_Stay) (by rfl) T.g_Stay rfl) T.cr_Stay T.cm_Stay_read (oR_Stay_read T) (hr.mono (by decide)) (passes_call (takes_of rfl rfl rfl rfl) (fun _ _ _ _ h => h)) (pa_cons pe_str pa_nil)))) pa_nil)))
       (pss_one (ps_ret (pe_cmpR (op_eqD hr.units) (pv 10) (pe_lst (pa_cons (pe_tup (pa_cons pe_int (pa_cons pe_int pa_nil))) (pa_cons (pe_lst (pa_cons pe_str pa_nil)) (pa_cons (pe_tup (pa_cons pe_int (pa_cons pe_int pa_nil))) (pa_cons (pe_tup (pa_cons pe_int (pa_cons pe_int pa_nil))) pa_nil))))) (nomark _)))))))))), ?_⟩
    refine ⟨_, rfl, sc, ns, rfl, hs, fun p a ns' H1 pa hp ha h1 h2 eH => ?_⟩
    have g1 : AW.Good (penC p a ns' (tabsT T)) (fun _ => none) 0 H1 := ⟨fun x o z => (by cases z), ⟨⟨⟨0, 0, h1, by omega, by omega, by omega⟩, h2, pa⟩, Tabs.keep (fun b o z _ => eH b o z) hT⟩, fun _ _ => rfl, fun x o z => (by cases z)⟩
    refine ⟨_, _, rfl, rfl, ⟨by decide, by decide, by decide⟩, _, _, rfl, rfl, _, _, rfl, ?_⟩
    have p12 : (10 : Int) ^ (12 : Int).toNat = 1000000000000 := by decide +kernel
    rw [p12]
    dsimp only
    refine body_of g1 ?_
    refine s_seq ?_
    refine s_join (fun σ' kn' n' => n' ≤ 400 ∧ ∃ x0 x3 x4 x5 x6 x7 x8 x9 x10, σ' = [x0, some (.ref p), some (.int (1000000000000 - 1)), x3, x4, x5, x6, x7, x8, x9, x10]) ?_ ?_
    · refine s_forR1 (j := 10) (fun i σ' kn' n' => n' ≤ 20 * i ∧ ∃ x0 x3 x4 x5 x6 x7 x8 x9 x10, σ' = [x0, some (.ref p), some (.int (1000000000000 - 1)), x3, x4, x5, x6, x7, x8, x9, x10]) ?_ ?_ ?_
      · walk_at "w"
        refine ⟨rfl, by decide, by decide, by omega, ?_⟩
        exact ⟨_, _, _, _, _, _, _, _, _, rfl⟩
      · rintro i σ' kn n hi ⟨hn, x0, x3, x4, x5, x6, x7, x8, x9, x10, rfl⟩
        have hi8 : i < 10 := hi
        walk_at "w"
        refine w_draw ?_
        walk_at "w"
        refine w_callP mo_pick err_no ?_
        walk_at "w"
        refine ⟨show 4 ≤ 1000 by decide, fun l hl => ?_⟩
        walk_at "w"
        refine ⟨by omega, _, _, rfl, upd_same, show 0 < 4 by decide, show 4 ≤ 1000 by decide, fun v hv => ?_⟩
        obtain ⟨m, rfl, m1, m2⟩ : ∃ m : Int, v = .int m ∧ 0 < m ∧ m ≤ 400 := by
          simp only [List.mem_cons, List.mem_nil_iff, or_false] at hv
          rcases hv with rfl | rfl | rfl | rfl
          · exact ⟨_, rfl, by omega, by omega⟩
          · exact ⟨_, rfl, by omega, by omega⟩
          · exact ⟨_, rfl, by omega, by omega⟩
          · exact ⟨_, rfl, by omega, by omega⟩
        generalize upd kn l _ = kn1
        clear hl hv
        walk_at "w"
        refine ⟨by omega, m1, by omega, fun k1 k10 k11 => ?_⟩
        obtain ⟨many, hm⟩ : ∃ many : Int, many = 1 + k1 := ⟨_, rfl⟩
        walk_at "w"
        rw [← hm]
        have hm1 : 1 ≤ many := by omega
        have hm2 : many ≤ 400 := by omega
        clear hm k10 k11
        walk_at "w"
        refine w_callP mo_pick err_no ?_
        walk_at "w"
        refine w_draw ?_
        walk_at "w"
        refine ⟨by omega, by decide, by decide, fun k2 k20 k21 => ?_⟩
        have k21' : k2 < 21 := k21
        walk_at "w"
        refine w_draw ?_
        walk_at "w"
        refine r_I ⟨by decide, by decide, by decide⟩ ?_
        walk_at "w"
        refine ⟨by omega, by decide, by decide, fun k3 k30 k31 => ?_⟩
        have k31' : k3 < 1000000000 := k31
        walk_at "w"
        refine ⟨show 4 ≤ 1000 by decide, fun l hl => ?_⟩
        walk_at "w"
        refine ⟨by omega, _, _, rfl, upd_same, show 0 < 4 by decide, show 4 ≤ 1000 by decide, fun v hv => ?_⟩
        obtain ⟨b, rfl, b1, b2⟩ : ∃ b : Int, v = .int b ∧ -999999999999 ≤ b ∧ b + many ≤ 999999999999 := by
          simp only [List.mem_cons, List.mem_nil_iff, or_false] at hv
          rcases hv with rfl | rfl | rfl | rfl
          · exact ⟨_, rfl, by omega, by omega⟩
          · exact ⟨_, rfl, by omega, by omega⟩
          · exact ⟨_, rfl, by omega, by omega⟩
          · exact ⟨_, rfl, by omega, by omega⟩
        generalize upd kn1 l _ = kn2
        clear hl hv k20 k21 k21' k30 k31 k31'
        have ok : okT b many := read_ok b1 (by omega) hm1 hm2 b2
        have aT := asc_txt ok
        walk_at "w"
        refine w_stay (EA := fun _ _ _ _ => False) err_no ?_
        walk_at "w"
        refine ⟨b, b + many, rfl, .inl ⟨day_of ⟨by omega, by omega⟩, day_of ⟨by omega, by omega⟩, by omega, by omega, fun s0 kn3 e3 n3 st => ?_⟩⟩
        walk_at "w"
        have lb : (dS b).length ≤ 14 := len_small (by omega) (by omega)
        have lm : (dS many).length ≤ 14 := len_small (by omega) (by omega)
        refine r_strI (log_small (by omega) (by omega)) ?_
        walk_at "w"
        refine r_addT (by show (dS b).length + 1 ≤ _; omega) ?_
        walk_at "w"
        refine r_strI (log_small (by omega) (by omega)) ?_
        walk_at "w"
        refine r_addT (by rw [PySem.Str.length_append]; show ((dS b).length + 1) + (dS many).length ≤ _; omega) ?_
        walk_at "w"
        refine ⟨_, _, rfl, ?_⟩
        rw [show (((toString b : String) : Str) ++ Str.ofString "+" ++ ((toString many : String) : Str)) = txt b many from line_txt b many]
        clear lb lm
        walk_at "wi"
        refine r_strSt st ?_
        walk_at "wi"
        rw [stayT_txt]
        refine ⟨fun _ => ?_, fun z => absurd z (by simp)⟩
        walk_at "wi"
        refine w_cmeth (EA := fun _ _ _ _ => False) mo_read err_no ?_
        walk_at "w"
        refine ⟨rfl, ?_⟩
        walk_at "w"
        refine ⟨_, rfl, .inl ⟨_, rfl, aT.asc (by decide), fun f' m' ok' et s1 kn4 e4 n4 st4 => ?_, fun nt => absurd ⟨b, many, ok, rfl⟩ nt⟩⟩
        obtain ⟨rfl, rfl⟩ := txt_inj et
        walk_at "w"
        refine w_neS T st4 (StayAt.ext e4 st) rfl rfl ?_
        walk_at "wi"
        refine w_cmethKW (EA := fun _ _ _ _ => False) mo_read err_no ?_
        walk_at "w"
        refine ⟨rfl, ?_⟩
        walk_at "w"
        refine ⟨rfl, ?_⟩
        refine ⟨_, rfl, .inl ⟨_, rfl, aT.asc (by decide), fun f' m' ok' et s2 kn5 e5 n5 st5 => ?_, fun nt => absurd ⟨b, many, ok, rfl⟩ nt⟩⟩
        obtain ⟨rfl, rfl⟩ := txt_inj et
        walk_at "w"
        have st5' := StayAt.ext e5 (StayAt.ext e4 st)
        refine w_neS T st5 st5' rfl rfl ?_
        clear st5 st4 st n4 n5 n3 e3 e4 e5
        walk_at "wi"
        refine s_forJ (i_list ?_)
        walk_at "w"
        refine w_callP mo_bent err_no ?_
        walk_at "w"
        refine ⟨by omega, _, rfl, aT.up (by decide), fun y1 k6 e6 ay1 => ?_⟩
        have ay1 := ay1.up (show _ ≤ 400 by have := aT.2; omega)
        walk_at "w"
        refine w_callP mo_bent err_no ?_
        walk_at "w"
        refine w_callP mo_bent err_no ?_
        walk_at "w"
        refine ⟨by omega, _, rfl, aT.up (by decide), fun y2 k7 e7 ay2 => ?_⟩
        have ay2 := ay2.up (show _ ≤ 100 by have := aT.2; omega)
        walk_at "w"
        refine ⟨by omega, _, rfl, ay2.up (by decide), fun y3 k8 e8 ay3 => ?_⟩
        have ay3 := ay3.up (show _ ≤ 400 by have := ay2.2; omega)
        walk_at "w"
        refine ⟨show 2 ≤ 1000 by decide, fun l2 hl2 => ?_⟩
        walk_at "w"
        have st8 := StayAt.ext (ext_new (o := .lst [.str y1, .str y3]) hl2) (StayAt.ext e8 (StayAt.ext e7 (StayAt.ext e6 st5')))
        have hl3 : upd k8 l2 (.lst [.str y1, .str y3]) l2 = some (.lst [.str y1, .str y3]) := upd_same
        generalize upd k8 l2 (.lst [.str y1, .str y3]) = k9 at st8 hl3 ⊢
        clear hl2 e6 e7 e8 ay2 st5'
        refine ⟨l2, _, rfl, hl3, [.str y1, .str y3], (fun k => k l2 = some (.lst [.str y1, .str y3])), (fun j σ' k m => m ≤ n + 14 ∧ StayAt T.c_Stay k s0 b (b + many) ∧ k l2 = some (.lst [.str y1, .str y3]) ∧ ∃ x8', σ' = [x0, some (.ref p), some (.int (1000000000000 - 1)), some (.int (i : Int)), some (.int many), some (.int b), some (.ref s0), some (.str (txt b many)), x8', x9, x10]), gives_lst, ⟨by omega, st8, hl3, _, rfl⟩, fun j σ' k m h => h.2.2.1, ?_, ?_⟩
        · rintro j x σ' k m hx ⟨hm', st9, hl9, x8', rfl⟩
          obtain ⟨y, rfl, ay⟩ : ∃ y, x = .str y ∧ AscL 400 y := by
            rcases j with _ | _ | j
            · cases hx; exact ⟨_, rfl, ay1⟩
            · cases hx; exact ⟨_, rfl, ay3⟩
            · cases hx
          have sy : ∀ s ∈ [y], PyData.strOk s = true := fun s hs => by
            rw [List.mem_singleton.1 hs]
            exact ok_asc ay
          walk_at "wi"
          refine w_read T (fun Q' q => ?_) (ay.asc (by decide)) (fun it q k2 e2 _ hq => ?_) (fun it q k2 e2 _ hq => ?_)
          · walk_at "w"
            exact q
          · walk_at "wi"
            refine w_call (EA := fun _ _ _ _ => False) mo_isT err_no ?_
            walk_at "w"
            refine ⟨y, rfl, ay.asc (by decide), fun _ k3 e3 => ?_, fun z => absurd it z⟩
            walk_at "wi"
            refine ⟨show 1 ≤ 1000 by decide, fun l3 hl3' => ?_⟩
            refine r_ne_d (.lst (sql (know hl3' (e3 _ _ hq))) (dp_strs [y])) (.lst (sql upd_same) (dp_strs [y])) (shaped_strs [y] sy) (shaped_strs [y] sy) ?_
            rw [show PyData.eqv (.list ([y].map PyData.str)) (.list ([y].map PyData.str)) = true from SeqAt.eqv_refl _ (by simp only [PyData.canLay0]; exact lay_strs [y] sy)]
            walk_at "wi"
            exact ⟨hm', StayAt.ext (ext_new hl3') (StayAt.ext e3 (StayAt.ext e2 st9)), know hl3' (e3 _ _ (e2 _ _ hl9)), _, rfl⟩
          · walk_at "wi"
            refine w_call (EA := fun _ _ _ _ => False) mo_isT err_no ?_
            walk_at "w"
            refine ⟨y, rfl, ay.asc (by decide), fun z => absurd z it, fun _ k3 e3 => ?_⟩
            walk_at "wi"
            refine ⟨show 2 ≤ 1000 by decide, fun l3 hl3' => ?_⟩
            refine r_ne_d (.tup (sqt (know hl3' (e3 _ _ hq))) (dp_pair 0 0)) (.tup (sqt upd_same) (dp_pair 0 0)) (by decide +kernel) (by decide +kernel) ?_
            rw [show PyData.eqv (.tuple [PyData.int 0, PyData.int 0]) (.tuple [PyData.int 0, PyData.int 0]) = true by decide +kernel]
            walk_at "wi"
            exact ⟨hm', StayAt.ext (ext_new hl3') (StayAt.ext e3 (StayAt.ext e2 st9)), know hl3' (e3 _ _ (e2 _ _ hl9)), _, rfl⟩
        · rintro σ' k m ⟨hm', st9, hl9, x8', rfl⟩
          walk_at "wi"
          refine w_callP mo_pick err_no ?_
          walk_at "w"
          refine ⟨show 1 ≤ 1000 by decide, fun l4 hl4 => ?_⟩
          walk_at "w"
          refine ⟨show 1 ≤ 1000 by decide, fun t5 ht5 => ?_⟩
          walk_at "w"
          refine w_dnew fun d6 hd6 => ?_
          walk_at "w"
          refine r_I ⟨by decide, by decide, by decide⟩ ?_
          walk_at "w"
          refine ⟨show 10 ≤ 1000 by decide, fun l8 hl8 => ?_⟩
          walk_at "w"
          refine ⟨by omega, _, _, rfl, upd_same, show 0 < 10 by decide, show 10 ≤ 1000 by decide, fun v hv => ?_⟩
          have f4 : ∀ o, upd (upd (upd (upd k l4 (.lst [.str (txt b many)])) t5 (.tup [.str (txt b many)])) d6 (.dK [])) l8 o l4 = some (.lst [.str (txt b many)]) := fun o => know hl8 (know hd6 (know ht5 upd_same))
          have f5 : ∀ o, upd (upd (upd (upd k l4 (.lst [.str (txt b many)])) t5 (.tup [.str (txt b many)])) d6 (.dK [])) l8 o t5 = some (.tup [.str (txt b many)]) := fun o => know hl8 (know hd6 upd_same)
          have f6 : ∀ o, upd (upd (upd (upd k l4 (.lst [.str (txt b many)])) t5 (.tup [.str (txt b many)])) d6 (.dK [])) l8 o d6 = some (.dK []) := fun o => know hl8 upd_same
          have f0 : ∀ o, StayAt T.c_Stay (upd (upd (upd (upd k l4 (.lst [.str (txt b many)])) t5 (.tup [.str (txt b many)])) d6 (.dK [])) l8 o) s0 b (b + many) := fun o => StayAt.ext (ext_tr (ext_new hl4) (ext_tr (ext_new ht5) (ext_tr (ext_new hd6) (ext_new hl8)))) st9
          generalize upd (upd (upd k l4 (.lst [.str (txt b many)])) t5 (.tup [.str (txt b many)])) d6 (.dK []) = k6 at f4 f5 f6 f0 hl8 hv ⊢
          clear hl4 ht5 hd6
          have f4 := f4 (.lst [.non, .int 0, .bl true, .ref l4, .ref t5, .ref d6, .str "", .str "+", .ref s0, .int (10 ^ (20 : Int).toNat)])
          have f5 := f5 (.lst [.non, .int 0, .bl true, .ref l4, .ref t5, .ref d6, .str "", .str "+", .ref s0, .int (10 ^ (20 : Int).toNat)])
          have f6 := f6 (.lst [.non, .int 0, .bl true, .ref l4, .ref t5, .ref d6, .str "", .str "+", .ref s0, .int (10 ^ (20 : Int).toNat)])
          have f0 := f0 (.lst [.non, .int 0, .bl true, .ref l4, .ref t5, .ref d6, .str "", .str "+", .ref s0, .int (10 ^ (20 : Int).toNat)])
          generalize upd k6 l8 (.lst [.non, .int 0, .bl true, .ref l4, .ref t5, .ref d6, .str "", .str "+", .ref s0, .int (10 ^ (20 : Int).toNat)]) = k7 at f4 f5 f6 f0 ⊢
          clear hl8
          have od : (∃ t, v = .str t ∧ Asc t ∧ ¬ isT t) ∨ ∃ ty, TyX K k7 v ty ∧ PySem.W.kitOne K ty (.type "str") = some false := by
            simp only [List.mem_cons, List.mem_nil_iff, or_false] at hv
            rcases hv with rfl | rfl | rfl | rfl | rfl | rfl | rfl | rfl | rfl | rfl
            · exact .inr ⟨_, .base .non, kit_ty rfl⟩
            · exact .inr ⟨_, .base (.int _), kit_ty rfl⟩
            · exact .inr ⟨_, .base (.bl true), kit_ty rfl⟩
            · exact .inr ⟨_, .base (.lst f4), kit_ty rfl⟩
            · exact .inr ⟨_, .base (.tup f5), kit_ty rfl⟩
            · exact .inr ⟨_, .base (.dK f6), kit_ty rfl⟩
            · exact .inl ⟨_, rfl, ⟨by decide, by decide⟩, not_T (by decide)⟩
            · exact .inl ⟨_, rfl, ⟨by decide, by decide⟩, not_T (by decide)⟩
            · obtain ⟨dx0, p0, a0, b0⟩ := f0.at_
              exact .inr ⟨_, T.own_Stay.ty a0, T.kit_Stay_str⟩
            · exact .inr ⟨_, .base (.int _), kit_ty rfl⟩
          clear hv f4 f5 f6 f0
          walk_at "wi"
          refine w_readOdd T (fun Q' q => ?_) od (fun q k8 e8 hq => ?_)
          · walk_at "w"
            exact q
          walk_at "wi"
          refine ⟨show 2 ≤ 1000 by decide, fun l3 hl3' => ?_⟩
          refine r_ne_d (.tup (sqt (know hl3' hq)) (dp_pair 0 0)) (.tup (sqt upd_same) (dp_pair 0 0)) (by decide +kernel) (by decide +kernel) ?_
          rw [show PyData.eqv (.tuple [PyData.int 0, PyData.int 0]) (.tuple [PyData.int 0, PyData.int 0]) = true by decide +kernel]
          walk_at "wi"
          exact ⟨by omega, _, _, _, _, _, _, _, _, _, rfl⟩
      · rintro σ' kn' n' ⟨hn, q⟩
        exact ⟨Nat.le_trans hn (by decide), q⟩
    · rintro σ' kn n ⟨hn, x0, x3, x4, x5, x6, x7, x8, x9, x10, rfl⟩
      walk_at "w"
      refine w_read (t := "999999999999+1") T (fun Q' q => ?_) ⟨by decide +kernel, by decide⟩ (fun it => absurd it (not_T2 (f := 999999999999) (n := 1) (by decide +kernel) (fun z => absurd z.2.2.2 (by decide)))) (fun _ q1 kn1 e1 _ hq1 => ?_)
      · walk_at "w"
        exact q
      walk_at "w"
      refine ⟨show 1 ≤ 1000 by decide, fun l hl => ?_⟩
      have hl1 : upd kn1 l (.lst [.ref q1]) l = some (.lst [.ref q1]) := upd_same
      have n1 := ne_known hq1 hl
      have hq1 := know (o := .lst [.ref q1]) hl hq1
      generalize upd kn1 l (.lst [.ref q1]) = kn2 at hl1 hq1 ⊢
      clear hl
      walk_at "w"
      refine w_append rfl hl1 ?_
      walk_at "w"
      refine w_read (t := "-999999999999+400") T (fun Q' q => ?_) ⟨by decide +kernel, by decide⟩ (fun _ q2 kn3 e3 nq2 hq2 => ?_) (fun nt => absurd ⟨-999999999999, 400, read_ok (by decide) (by decide) (by decide) (by decide) (by decide), by decide +kernel⟩ nt)
      · walk_at "w"
        exact q
      have n2 := ne_known hl1 nq2
      have hl3 := e3 _ _ hl1
      have hq1 := keep_ne (o := .lst ([.ref q1] ++ [.ref q2])) n1.symm (e3 _ _ hq1)
      have hq2 := keep_ne (o := .lst ([.ref q1] ++ [.ref q2])) n2 hq2
      walk_at "w"
      refine ⟨_, [.ref q1], rfl, hl3, show 1 ≤ 1000 by decide, ?_⟩
      have hl4 : upd kn3 l (.lst ([.ref q1] ++ [.ref q2])) l = some (.lst ([.ref q1] ++ [.ref q2])) := upd_same
      generalize upd kn3 l (.lst ([.ref q1] ++ [.ref q2])) = kn4 at hl4 hq1 hq2 ⊢
      clear hl1 hl3 e3 nq2
      walk_at "w"
      refine w_append rfl hl4 ?_
      walk_at "w"
      refine w_read (t := "0+401") T (fun Q' q => ?_) ⟨by decide +kernel, by decide⟩ (fun it => absurd it (not_T2 (f := 0) (n := 401) (by decide +kernel) (fun z => absurd z.2.2.1 (by decide)))) (fun _ q3 kn5 e5 nq3 hq3 => ?_)
      · walk_at "w"
        exact q
      have n3 := ne_known hl4 nq3
      have hl5 := e5 _ _ hl4
      have hq1 := keep_ne (o := .lst (([.ref q1] ++ [.ref q2]) ++ [.ref q3])) n1.symm (e5 _ _ hq1)
      have hq2 := keep_ne (o := .lst (([.ref q1] ++ [.ref q2]) ++ [.ref q3])) n2 (e5 _ _ hq2)
      have hq3 := keep_ne (o := .lst (([.ref q1] ++ [.ref q2]) ++ [.ref q3])) n3 hq3
      walk_at "w"
      refine ⟨_, [V.ref q1] ++ [V.ref q2], rfl, hl5, show 2 ≤ 1000 by decide, ?_⟩
      have hl6 : upd kn5 l (.lst (([.ref q1] ++ [.ref q2]) ++ [.ref q3])) l = some (.lst (([.ref q1] ++ [.ref q2]) ++ [.ref q3])) := upd_same
      generalize upd kn5 l (.lst (([.ref q1] ++ [.ref q2]) ++ [.ref q3])) = kn6 at hl6 hq1 hq2 hq3 ⊢
      clear hl4 hl5 e5 nq3
      walk_at "w"
      refine w_append rfl hl6 ?_
      walk_at "w"
      refine w_read (t := "3+0") T (fun Q' q => ?_) ⟨by decide +kernel, by decide⟩ (fun it => absurd it (not_T2 (f := 3) (n := 0) (by decide +kernel) (fun z => absurd z.2.1 (by decide)))) (fun _ q4 kn7 e7 nq4 hq4 => ?_)
      · walk_at "w"
        exact q
      have n4 := ne_known hl6 nq4
      have hl7 := e7 _ _ hl6
      have hq1 := keep_ne (o := .lst ((([.ref q1] ++ [.ref q2]) ++ [.ref q3]) ++ [.ref q4])) n1.symm (e7 _ _ hq1)
      have hq2 := keep_ne (o := .lst ((([.ref q1] ++ [.ref q2]) ++ [.ref q3]) ++ [.ref q4])) n2 (e7 _ _ hq2)
      have hq3 := keep_ne (o := .lst ((([.ref q1] ++ [.ref q2]) ++ [.ref q3]) ++ [.ref q4])) n3 (e7 _ _ hq3)
      have hq4 := keep_ne (o := .lst ((([.ref q1] ++ [.ref q2]) ++ [.ref q3]) ++ [.ref q4])) n4 hq4
      walk_at "w"
      refine ⟨_, ([V.ref q1] ++ [V.ref q2]) ++ [V.ref q3], rfl, hl7, show 3 ≤ 1000 by decide, ?_⟩
      have hl8 : upd kn7 l (.lst ((([.ref q1] ++ [.ref q2]) ++ [.ref q3]) ++ [.ref q4])) l = some (.lst ((([.ref q1] ++ [.ref q2]) ++ [.ref q3]) ++ [.ref q4])) := upd_same
      generalize upd kn7 l (.lst ((([.ref q1] ++ [.ref q2]) ++ [.ref q3]) ++ [.ref q4])) = kn8 at hl8 hq1 hq2 hq3 hq4 ⊢
      clear hl6 hl7 e7 nq4
      walk_at "w"
      refine ⟨show 2 ≤ 1000 by decide, fun t1 ht1 => ?_⟩
      walk_at "w"
      refine ⟨show 1 ≤ 1000 by decide, fun t2 ht2 => ?_⟩
      walk_at "w"
      refine ⟨show 2 ≤ 1000 by decide, fun t3 ht3 => ?_⟩
      walk_at "w"
      refine ⟨show 2 ≤ 1000 by decide, fun t4 ht4 => ?_⟩
      walk_at "w"
      refine ⟨show 4 ≤ 1000 by decide, fun lz hlz => ?_⟩
      refine r_eq_d (d := .list [.tuple [.int 0, .int 0], .list [.str "-999999999999+400"], .tuple [.int 0, .int 0], .tuple [.int 0, .int 0]]) (e := .list [.tuple [.int 0, .int 0], .list [.str "-999999999999+400"], .tuple [.int 0, .int 0], .tuple [.int 0, .int 0]])
        (.lst (sql (know hlz (know ht4 (know ht3 (know ht2 (know ht1 hl8)))))) (.cons (.tup (sqt (know hlz (know ht4 (know ht3 (know ht2 (know ht1 hq1)))))) (dp_pair _ _)) (.cons (.lst (sql (know hlz (know ht4 (know ht3 (know ht2 (know ht1 hq2)))))) (.cons (.str _) .nil)) (.cons (.tup (sqt (know hlz (know ht4 (know ht3 (know ht2 (know ht1 hq3)))))) (dp_pair _ _)) (.cons (.tup (sqt (know hlz (know ht4 (know ht3 (know ht2 (know ht1 hq4)))))) (dp_pair _ _)) .nil)))))
        (.lst (sql upd_same) (.cons (.tup (sqt (know hlz (know ht4 (know ht3 (know ht2 upd_same))))) (dp_pair _ _)) (.cons (.lst (sql (know hlz (know ht4 (know ht3 upd_same)))) (.cons (.str _) .nil)) (.cons (.tup (sqt (know hlz (know ht4 upd_same))) (dp_pair _ _)) (.cons (.tup (sqt (know hlz upd_same)) (dp_pair _ _)) .nil)))))
        (by decide +kernel) (by decide +kernel) ?_
      rw [show PyData.eqv (.list [.tuple [.int 0, .int 0], .list [.str "-999999999999+400"], .tuple [.int 0, .int 0], .tuple [.int 0, .int 0]]) (.list [.tuple [.int 0, .int 0], .list [.str "-999999999999+400"], .tuple [.int 0, .int 0], .tuple [.int 0, .int 0]]) = true by decide +kernel]
      exact fun H' _ => h H'
end
/-- the law at its head -/
theorem law_at {l : PySem.W.OpenLaw} {w : World} {K : PySem.W.Frag} {mg : Str → Option Value} {h : Heap} {fa : Addr} (T : Tx K mg) (hfa : T.f_law = fa) (hc1 : PySem.W.CodeHd h T.cc_law T.tp_law)
    (hg1 : h.get? T.tp_law = some { cls := .none, data := .fields #[] }) (hn1 : K.lookup T.tp_law = none) : LawAtG l w K CX0 40 63 "script" mg fa h := by
  subst hfa
  refine ⟨T.d_law, [(T.cc_law, T.tp_law)], spLaw T, ?_, ?_, ?_, ?_, ?_, ?_⟩
  · intro p hp
    rcases List.mem_cons.mp hp with rfl | hp
    · exact hg1
    · cases hp
  · intro p hp
    rcases List.mem_cons.mp hp with rfl | hp
    · exact hn1
    · cases hp
  · intro p hp
    rcases List.mem_cons.mp hp with rfl | hp
    · exact hc1
    · cases hp
  · intro s u
    obtain ⟨oc, od, kV, doc, pm, an, cdv, ct, osl, hfd, _, _⟩ := T.F_law.ex
    rw [hfd]
    exact BindsTo.of_eq (by rfl)
  · intro H a nums hl hb ht hs
    refine ⟨a, nums, rfl, hs, tabs_new fun p hp => ?_, fun H' => rfl⟩
    rcases List.mem_cons.mp hp with rfl | hp
    · exact ht _ (.head _)
    · cases hp
  · intro base hK hNs ht
    exact ok_law T (ht _ (.head _))

end NN

namespace NN
open PySem PySem.Spec PyProof.Rows L2 LamX AW ClX
theorem all_mk {K : PySem.W.Frag} {h : Heap} {mg : Str → Option Value} {l : PySem.W.OpenLaw} {w : World} {fa : Addr} (hfa : mg "law" = some (.ref fa)) (X : K.In h) (G : h.Ns mainGlobals mg)
    {f_is_whole : Addr}
    {oc_is_whole : Value}
    {kV_is_whole : Value}
    {dc_is_whole : Value}
    {pm_is_whole : Value}
    {cd_is_whole : Value}
    {ct_is_whole : Value}
    {od_is_whole : Option Addr}
    {an_is_whole : Option Addr}
    {sl_is_whole : Array (Option Value)}
    {f_is_from : Addr}
    {oc_is_from : Value}
    {kV_is_from : Value}
    {dc_is_from : Value}
    {pm_is_from : Value}
    {cd_is_from : Value}
    {ct_is_from : Value}
    {od_is_from : Option Addr}
    {an_is_from : Option Addr}
    {sl_is_from : Array (Option Value)}
    {f_is_day : Addr}
    {oc_is_day : Value}
    {kV_is_day : Value}
    {dc_is_day : Value}
    {pm_is_day : Value}
    {cd_is_day : Value}
    {ct_is_day : Value}
    {od_is_day : Option Addr}
    {an_is_day : Option Addr}
    {sl_is_day : Array (Option Value)}
    {f_read_number : Addr}
    {oc_read_number : Value}
    {kV_read_number : Value}
    {dc_read_number : Value}
    {pm_read_number : Value}
    {cd_read_number : Value}
    {ct_read_number : Value}
    {od_read_number : Option Addr}
    {an_read_number : Option Addr}
    {sl_read_number : Array (Option Value)}
    {c_StayError : Addr}
    {c_BadStay : Addr}
    {nm_BadStay : Str}
    {q_BadStay : Str}
    {N_BadStay : Addr}
    {bs_BadStay : List Value}
    {bm_BadStay : List Value}
    {sn_BadStay : List Str}
    {sub_BadStay : List Value}
    {ab_BadStay : Bool}
    {col_BadStay : Option Bool}
    {dd_BadStay : Option Addr}
    {m0_BadStay : Option Value}
    {m1_BadStay : Option Value}
    {m2_BadStay : Option Value}
    {m3_BadStay : Option Value}
    {m5_BadStay : Option Value}
    {f_BadStay___init__ : Addr}
    {oc_BadStay___init__ : Value}
    {kV_BadStay___init__ : Value}
    {dc_BadStay___init__ : Value}
    {pm_BadStay___init__ : Value}
    {cd_BadStay___init__ : Value}
    {ct_BadStay___init__ : Value}
    {od_BadStay___init__ : Option Addr}
    {an_BadStay___init__ : Option Addr}
    {sl_BadStay___init__ : Array (Option Value)}
    {c_BadText : Addr}
    {nm_BadText : Str}
    {q_BadText : Str}
    {N_BadText : Addr}
    {bs_BadText : List Value}
    {bm_BadText : List Value}
    {sn_BadText : List Str}
    {sub_BadText : List Value}
    {ab_BadText : Bool}
    {col_BadText : Option Bool}
    {dd_BadText : Option Addr}
    {m0_BadText : Option Value}
    {m1_BadText : Option Value}
    {m2_BadText : Option Value}
    {m3_BadText : Option Value}
    {m5_BadText : Option Value}
    {f_BadText___init__ : Addr}
    {oc_BadText___init__ : Value}
    {kV_BadText___init__ : Value}
    {dc_BadText___init__ : Value}
    {pm_BadText___init__ : Value}
    {cd_BadText___init__ : Value}
    {ct_BadText___init__ : Value}
    {od_BadText___init__ : Option Addr}
    {an_BadText___init__ : Option Addr}
    {sl_BadText___init__ : Array (Option Value)}
    {c_Stay : Addr}
    {f_Stay___init__ : Addr}
    {oc_Stay___init__ : Value}
    {kV_Stay___init__ : Value}
    {dc_Stay___init__ : Value}
    {pm_Stay___init__ : Value}
    {cd_Stay___init__ : Value}
    {ct_Stay___init__ : Value}
    {od_Stay___init__ : Option Addr}
    {an_Stay___init__ : Option Addr}
    {sl_Stay___init__ : Array (Option Value)}
    {f_Stay___eq__ : Addr}
    {oc_Stay___eq__ : Value}
    {kV_Stay___eq__ : Value}
    {dc_Stay___eq__ : Value}
    {pm_Stay___eq__ : Value}
    {cd_Stay___eq__ : Value}
    {ct_Stay___eq__ : Value}
    {od_Stay___eq__ : Option Addr}
    {an_Stay___eq__ : Option Addr}
    {sl_Stay___eq__ : Array (Option Value)}
    {f_Stay___str__ : Addr}
    {oc_Stay___str__ : Value}
    {kV_Stay___str__ : Value}
    {dc_Stay___str__ : Value}
    {pm_Stay___str__ : Value}
    {cd_Stay___str__ : Value}
    {ct_Stay___str__ : Value}
    {od_Stay___str__ : Option Addr}
    {an_Stay___str__ : Option Addr}
    {sl_Stay___str__ : Array (Option Value)}
    {f_Stay_read : Addr}
    {p_Stay_read : Addr}
    {rest_Stay_read : List Value}
    {oc_Stay_read : Value}
    {kV_Stay_read : Value}
    {dc_Stay_read : Value}
    {pm_Stay_read : Value}
    {cd_Stay_read : Value}
    {ct_Stay_read : Value}
    {od_Stay_read : Option Addr}
    {an_Stay_read : Option Addr}
    {sl_Stay_read : Array (Option Value)}
    {f__law_pen : Addr}
    {oc__law_pen : Value}
    {kV__law_pen : Value}
    {dc__law_pen : Value}
    {pm__law_pen : Value}
    {cd__law_pen : Value}
    {ct__law_pen : Value}
    {od__law_pen : Option Addr}
    {an__law_pen : Option Addr}
    {sl__law_pen : Array (Option Value)}
    {f__law_draw : Addr}
    {oc__law_draw : Value}
    {kV__law_draw : Value}
    {dc__law_draw : Value}
    {pm__law_draw : Value}
    {cd__law_draw : Value}
    {ct__law_draw : Value}
    {od__law_draw : Option Addr}
    {an__law_draw : Option Addr}
    {sl__law_draw : Array (Option Value)}
    {f__law_pick : Addr}
    {oc__law_pick : Value}
    {kV__law_pick : Value}
    {dc__law_pick : Value}
    {pm__law_pick : Value}
    {cd__law_pick : Value}
    {ct__law_pick : Value}
    {od__law_pick : Option Addr}
    {an__law_pick : Option Addr}
    {sl__law_pick : Array (Option Value)}
    {f__law_heard : Addr}
    {oc__law_heard : Value}
    {kV__law_heard : Value}
    {dc__law_heard : Value}
    {pm__law_heard : Value}
    {cd__law_heard : Value}
    {ct__law_heard : Value}
    {od__law_heard : Option Addr}
    {an__law_heard : Option Addr}
    {sl__law_heard : Array (Option Value)}
    {f__law_is_count : Addr}
    {oc__law_is_count : Value}
    {kV__law_is_count : Value}
    {dc__law_is_count : Value}
    {pm__law_is_count : Value}
    {cd__law_is_count : Value}
    {ct__law_is_count : Value}
    {od__law_is_count : Option Addr}
    {an__law_is_count : Option Addr}
    {sl__law_is_count : Array (Option Value)}
    {f__law_is_text : Addr}
    {oc__law_is_text : Value}
    {kV__law_is_text : Value}
    {dc__law_is_text : Value}
    {pm__law_is_text : Value}
    {cd__law_is_text : Value}
    {ct__law_is_text : Value}
    {od__law_is_text : Option Addr}
    {an__law_is_text : Option Addr}
    {sl__law_is_text : Array (Option Value)}
    {f__law_bent : Addr}
    {oc__law_bent : Value}
    {kV__law_bent : Value}
    {dc__law_bent : Value}
    {pm__law_bent : Value}
    {cd__law_bent : Value}
    {ct__law_bent : Value}
    {od__law_bent : Option Addr}
    {an__law_bent : Option Addr}
    {sl__law_bent : Array (Option Value)}
    {f_law : Addr}
    {oc_law : Value}
    {kV_law : Value}
    {dc_law : Value}
    {pm_law : Value}
    {ct_law : Value}
    {od_law : Option Addr}
    {an_law : Option Addr}
    {sl_law : Array (Option Value)}
    {t_LAST_DAY : Tok}
    {t_DIGITS : Tok}
    {t_Stay_MOST : Tok}
    {cc_law : Addr}
    {tp_law : Addr}
    {cob_law : Obj}
    (a_is_whole : PySem.W.nsIn K mainGlobals "is_whole" = some (some (.ref f_is_whole)))
    (l_is_whole : K.lookup f_is_whole = some ⟨oc_is_whole, od_is_whole, .func (PySem.W.fnOf "is_whole" "is_whole" (defArgs s_is_whole) (defBody s_is_whole) (defScope s_is_whole) .none kV_is_whole dc_is_whole pm_is_whole an_is_whole cd_is_whole ct_is_whole), sl_is_whole⟩)
    (c_is_whole_ : PySem.W.codeIn K cd_is_whole "is_whole" = true)
    (k_is_whole : PySem.W.keepIn K (.ref f_is_whole) = true)
    (a_is_from : PySem.W.nsIn K mainGlobals "is_from" = some (some (.ref f_is_from)))
    (l_is_from : K.lookup f_is_from = some ⟨oc_is_from, od_is_from, .func (PySem.W.fnOf "is_from" "is_from" (defArgs s_is_from) (defBody s_is_from) (defScope s_is_from) .none kV_is_from dc_is_from pm_is_from an_is_from cd_is_from ct_is_from), sl_is_from⟩)
    (c_is_from_ : PySem.W.codeIn K cd_is_from "is_from" = true)
    (k_is_from : PySem.W.keepIn K (.ref f_is_from) = true)
    (a_is_day : PySem.W.nsIn K mainGlobals "is_day" = some (some (.ref f_is_day)))
    (l_is_day : K.lookup f_is_day = some ⟨oc_is_day, od_is_day, .func (PySem.W.fnOf "is_day" "is_day" (defArgs s_is_day) (defBody s_is_day) (defScope s_is_day) .none kV_is_day dc_is_day pm_is_day an_is_day cd_is_day ct_is_day), sl_is_day⟩)
    (c_is_day_ : PySem.W.codeIn K cd_is_day "is_day" = true)
    (k_is_day : PySem.W.keepIn K (.ref f_is_day) = true)
    (a_read_number : PySem.W.nsIn K mainGlobals "read_number" = some (some (.ref f_read_number)))
    (l_read_number : K.lookup f_read_number = some ⟨oc_read_number, od_read_number, .func (PySem.W.fnOf "read_number" "read_number" (defArgs s_read_number) (defBody s_read_number) (defScope s_read_number) .none kV_read_number dc_read_number pm_read_number an_read_number cd_read_number ct_read_number), sl_read_number⟩)
    (c_read_number_ : PySem.W.codeIn K cd_read_number "read_number" = true)
    (k_read_number : PySem.W.keepIn K (.ref f_read_number) = true)
    (a_StayError : PySem.W.nsIn K mainGlobals "StayError" = some (some (.ref c_StayError)))
    (a_BadStay : PySem.W.nsIn K mainGlobals "BadStay" = some (some (.ref c_BadStay)))
    (h_BadStay_l : K.lookup c_BadStay = some (excClassObj nm_BadStay q_BadStay c_BadStay N_BadStay bs_BadStay bm_BadStay true sn_BadStay sub_BadStay ab_BadStay col_BadStay dd_BadStay m0_BadStay m1_BadStay m2_BadStay m3_BadStay m5_BadStay "ValueError.__new__"))
    (h_BadStay_bm : PySem.HandSPX.refsVE bm_BadStay = true)
    (h_BadStay_sa : PySem.W.findIn K (.ref c_BadStay) "__setattr__" = some (some (.builtin "object.__setattr__")))
    (h_BadStay_ex : PySem.W.subIn K (.ref c_BadStay) (.type "BaseException") = some true)
    (h_BadStay_ty : PySem.W.typeIn K (.ref c_BadStay) = some (.type "type"))
    (h_BadStay_kp : PySem.W.keepIn K (.ref c_BadStay) = true)
    (h_BadStay_ga : PySem.W.findIn K (.ref c_BadStay) "__getattribute__" = some (some (.builtin "BaseException.__getattribute__")))
    (h_BadStay_gg : PySem.W.findIn K (.ref c_BadStay) "__getattr__" = some none)
    (h_BadStay_hd : PySem.W.hasDictIn K c_BadStay = true)
    (h_BadStay_cls : PySem.W.findIn K (.ref c_BadStay) "__class__" = some (some (.builtin "object.__class__")))
    (h_BadStay_mro : PySem.W.mroIn K c_BadStay (.type "object") = some true)
    (h_cget : PySem.W.specialIn K (.builtin "object.__class__") "__get__" = some (some (.builtin "getset_descriptor.__get__")))
    (h_ctak : PySem.W.takesIn K (.builtin "object.__class__") = some true)
    (h_nx_BadStay_part : PySem.W.findIn K (.ref c_BadStay) "part" = some none)
    (a_BadStay___init__ : PySem.W.findIn K (.ref c_BadStay) "__init__" = some (some (.ref f_BadStay___init__)))
    (i_BadStay___init__ : PySem.W.isFn K (.ref f_BadStay___init__) = true)
    (l_BadStay___init__ : K.lookup f_BadStay___init__ = some ⟨oc_BadStay___init__, od_BadStay___init__, .func (PySem.W.fnOf "__init__" "BadStay.__init__" (defArgs s_BadStay___init__) (defBody s_BadStay___init__) (defScope s_BadStay___init__) .none kV_BadStay___init__ dc_BadStay___init__ pm_BadStay___init__ an_BadStay___init__ cd_BadStay___init__ ct_BadStay___init__), sl_BadStay___init__⟩)
    (c_BadStay___init___ : PySem.W.codeIn K cd_BadStay___init__ "BadStay.__init__" = true)
    (k_BadStay___init__ : PySem.W.keepIn K (.ref f_BadStay___init__) = true)
    (t_BadStay___init__ : PySem.W.typeIn K (.ref f_BadStay___init__) = some (.type "function"))
    (a_BadText : PySem.W.nsIn K mainGlobals "BadText" = some (some (.ref c_BadText)))
    (h_BadText_l : K.lookup c_BadText = some (excClassObj nm_BadText q_BadText c_BadText N_BadText bs_BadText bm_BadText true sn_BadText sub_BadText ab_BadText col_BadText dd_BadText m0_BadText m1_BadText m2_BadText m3_BadText m5_BadText "ValueError.__new__"))
    (h_BadText_bm : PySem.HandSPX.refsVE bm_BadText = true)
    (h_BadText_sa : PySem.W.findIn K (.ref c_BadText) "__setattr__" = some (some (.builtin "object.__setattr__")))
    (h_BadText_ex : PySem.W.subIn K (.ref c_BadText) (.type "BaseException") = some true)
    (h_BadText_ty : PySem.W.typeIn K (.ref c_BadText) = some (.type "type"))
    (h_BadText_kp : PySem.W.keepIn K (.ref c_BadText) = true)
    (h_BadText_ga : PySem.W.findIn K (.ref c_BadText) "__getattribute__" = some (some (.builtin "BaseException.__getattribute__")))
    (h_BadText_gg : PySem.W.findIn K (.ref c_BadText) "__getattr__" = some none)
    (h_BadText_hd : PySem.W.hasDictIn K c_BadText = true)
    (h_BadText_cls : PySem.W.findIn K (.ref c_BadText) "__class__" = some (some (.builtin "object.__class__")))
    (h_BadText_mro : PySem.W.mroIn K c_BadText (.type "object") = some true)
    (h_nx_BadText_line : PySem.W.findIn K (.ref c_BadText) "line" = some none)
    (h_nx_BadText_word : PySem.W.findIn K (.ref c_BadText) "word" = some none)
    (a_BadText___init__ : PySem.W.findIn K (.ref c_BadText) "__init__" = some (some (.ref f_BadText___init__)))
    (i_BadText___init__ : PySem.W.isFn K (.ref f_BadText___init__) = true)
    (l_BadText___init__ : K.lookup f_BadText___init__ = some ⟨oc_BadText___init__, od_BadText___init__, .func (PySem.W.fnOf "__init__" "BadText.__init__" (defArgs s_BadText___init__) (defBody s_BadText___init__) (defScope s_BadText___init__) .none kV_BadText___init__ dc_BadText___init__ pm_BadText___init__ an_BadText___init__ cd_BadText___init__ ct_BadText___init__), sl_BadText___init__⟩)
    (c_BadText___init___ : PySem.W.codeIn K cd_BadText___init__ "BadText.__init__" = true)
    (k_BadText___init__ : PySem.W.keepIn K (.ref f_BadText___init__) = true)
    (t_BadText___init__ : PySem.W.typeIn K (.ref f_BadText___init__) = some (.type "function"))
    (a_Stay : PySem.W.nsIn K mainGlobals "Stay" = some (some (.ref c_Stay)))
    (h_Stay_pg : PySem.W.plainGet K c_Stay Str.empty = true)
    (h_Stay_hd : PySem.W.hasDictIn K c_Stay = true)
    (h_Stay_po : PySem.W.plainOver K c_Stay = true)
    (h_Stay_sa : PySem.W.findIn K (.ref c_Stay) "__setattr__" = some (some (.builtin "object.__setattr__")))
    (h_Stay_cls : PySem.W.findIn K (.ref c_Stay) "__class__" = some (some (.builtin "object.__class__")))
    (h_Stay_get : PySem.W.specialIn K (.builtin "object.__class__") "__get__" = some (some (.builtin "getset_descriptor.__get__")))
    (h_Stay_tak : PySem.W.takesIn K (.builtin "object.__class__") = some true)
    (h_Stay_mro : PySem.W.mroIn K c_Stay (.type "object") = some true)
    (h_na_Stay_first : PySem.W.findIn K (.ref c_Stay) "first" = some none)
    (h_na_Stay_after : PySem.W.findIn K (.ref c_Stay) "after" = some none)
    (h_na_Stay__nights : PySem.W.findIn K (.ref c_Stay) "_nights" = some none)
    (h_Stay_mk : PySem.W.makesIn K c_Stay = true)
    (h_Stay_kp : PySem.W.keepIn K (.ref c_Stay) = true)
    (a_Stay___init__ : PySem.W.findIn K (.ref c_Stay) "__init__" = some (some (.ref f_Stay___init__)))
    (i_Stay___init__ : PySem.W.isFn K (.ref f_Stay___init__) = true)
    (l_Stay___init__ : K.lookup f_Stay___init__ = some ⟨oc_Stay___init__, od_Stay___init__, .func (PySem.W.fnOf "__init__" "Stay.__init__" (defArgs s_Stay___init__) (defBody s_Stay___init__) (defScope s_Stay___init__) .none kV_Stay___init__ dc_Stay___init__ pm_Stay___init__ an_Stay___init__ cd_Stay___init__ ct_Stay___init__), sl_Stay___init__⟩)
    (c_Stay___init___ : PySem.W.codeIn K cd_Stay___init__ "Stay.__init__" = true)
    (k_Stay___init__ : PySem.W.keepIn K (.ref f_Stay___init__) = true)
    (a_Stay___eq__ : PySem.W.findIn K (.ref c_Stay) "__eq__" = some (some (.ref f_Stay___eq__)))
    (i_Stay___eq__ : PySem.W.isFn K (.ref f_Stay___eq__) = true)
    (l_Stay___eq__ : K.lookup f_Stay___eq__ = some ⟨oc_Stay___eq__, od_Stay___eq__, .func (PySem.W.fnOf "__eq__" "Stay.__eq__" (defArgs s_Stay___eq__) (defBody s_Stay___eq__) (defScope s_Stay___eq__) .none kV_Stay___eq__ dc_Stay___eq__ pm_Stay___eq__ an_Stay___eq__ cd_Stay___eq__ ct_Stay___eq__), sl_Stay___eq__⟩)
    (c_Stay___eq___ : PySem.W.codeIn K cd_Stay___eq__ "Stay.__eq__" = true)
    (k_Stay___eq__ : PySem.W.keepIn K (.ref f_Stay___eq__) = true)
    (a_Stay___str__ : PySem.W.findIn K (.ref c_Stay) "__str__" = some (some (.ref f_Stay___str__)))
    (i_Stay___str__ : PySem.W.isFn K (.ref f_Stay___str__) = true)
    (l_Stay___str__ : K.lookup f_Stay___str__ = some ⟨oc_Stay___str__, od_Stay___str__, .func (PySem.W.fnOf "__str__" "Stay.__str__" (defArgs s_Stay___str__) (defBody s_Stay___str__) (defScope s_Stay___str__) .none kV_Stay___str__ dc_Stay___str__ pm_Stay___str__ an_Stay___str__ cd_Stay___str__ ct_Stay___str__), sl_Stay___str__⟩)
    (c_Stay___str___ : PySem.W.codeIn K cd_Stay___str__ "Stay.__str__" = true)
    (k_Stay___str__ : PySem.W.keepIn K (.ref f_Stay___str__) = true)
    (h_Stay_ne : PySem.W.findIn K (.ref c_Stay) "__ne__" = some (some (.builtin "object.__ne__")))
    (h_Stay_rd : PySem.W.readsIn K c_Stay (.type "type") = true)
    (h_Stay_tg : PySem.W.specialIn K (.ref c_Stay) "__getattribute__" = some (some (.builtin "type.__getattribute__")))
    (ca_Stay_read : PySem.W.findCls K (.ref c_Stay) (.type "type") "read" = some (.get (.builtin "classmethod.__get__") (.ref p_Stay_read) .none (.ref c_Stay)))
    (cr_Stay_read : PySem.W.recIn K p_Stay_read "classmethod" = some (.ref f_Stay_read :: rest_Stay_read))
    (cf_Stay_read : PySem.W.fnIn K f_Stay_read = true)
    (l_Stay_read : K.lookup f_Stay_read = some ⟨oc_Stay_read, od_Stay_read, .func (PySem.W.fnOf "read" "Stay.read" (defArgs s_Stay_read) (defBody s_Stay_read) (defScope s_Stay_read) .none kV_Stay_read dc_Stay_read pm_Stay_read an_Stay_read cd_Stay_read ct_Stay_read), sl_Stay_read⟩)
    (c_Stay_read_ : PySem.W.codeIn K cd_Stay_read "Stay.read" = true)
    (k_Stay_read : PySem.W.keepIn K (.ref f_Stay_read) = true)
    (h_exm_BadText : PySem.W.exmOne K (.ref c_BadText) (.ref c_StayError) = some true)
    (h_exm_BadStay : PySem.W.exmOne K (.ref c_BadStay) (.ref c_BadStay) = some true)
    (h_kit_BadText : PySem.W.kitOne K (.ref c_BadText) (.ref c_BadText) = some true)
    (h_kit_Stay : PySem.W.kitOne K (.ref c_Stay) (.ref c_Stay) = some true)
    (h_kit_Stay_int : PySem.W.kitOne K (.ref c_Stay) (.type "int") = some false)
    (h_kit_Stay_str : PySem.W.kitOne K (.ref c_Stay) (.type "str") = some false)
    (h_sb_Stay_NoneType : PySem.W.subIn K (.ref c_Stay) (.type "NoneType") = some false)
    (h_kit_NoneType_Stay : PySem.W.kitOne K (.type "NoneType") (.ref c_Stay) = some false)
    (h_sb_Stay_bool : PySem.W.subIn K (.ref c_Stay) (.type "bool") = some false)
    (h_kit_bool_Stay : PySem.W.kitOne K (.type "bool") (.ref c_Stay) = some false)
    (h_sb_Stay_int : PySem.W.subIn K (.ref c_Stay) (.type "int") = some false)
    (h_kit_int_Stay : PySem.W.kitOne K (.type "int") (.ref c_Stay) = some false)
    (h_sb_Stay_str : PySem.W.subIn K (.ref c_Stay) (.type "str") = some false)
    (h_kit_str_Stay : PySem.W.kitOne K (.type "str") (.ref c_Stay) = some false)
    (h_sb_Stay_tuple : PySem.W.subIn K (.ref c_Stay) (.type "tuple") = some false)
    (h_kit_tuple_Stay : PySem.W.kitOne K (.type "tuple") (.ref c_Stay) = some false)
    (h_sb_Stay_list : PySem.W.subIn K (.ref c_Stay) (.type "list") = some false)
    (h_kit_list_Stay : PySem.W.kitOne K (.type "list") (.ref c_Stay) = some false)
    (a__law_pen : PySem.W.nsIn K mainGlobals "_law_pen" = some (some (.ref f__law_pen)))
    (l__law_pen : K.lookup f__law_pen = some ⟨oc__law_pen, od__law_pen, .func (PySem.W.fnOf "_law_pen" "_law_pen" (defArgs s__law_pen) (defBody s__law_pen) (defScope s__law_pen) .none kV__law_pen dc__law_pen pm__law_pen an__law_pen cd__law_pen ct__law_pen), sl__law_pen⟩)
    (c__law_pen_ : PySem.W.codeIn K cd__law_pen "_law_pen" = true)
    (k__law_pen : PySem.W.keepIn K (.ref f__law_pen) = true)
    (a__law_draw : PySem.W.nsIn K mainGlobals "_law_draw" = some (some (.ref f__law_draw)))
    (l__law_draw : K.lookup f__law_draw = some ⟨oc__law_draw, od__law_draw, .func (PySem.W.fnOf "_law_draw" "_law_draw" (defArgs s__law_draw) (defBody s__law_draw) (defScope s__law_draw) .none kV__law_draw dc__law_draw pm__law_draw an__law_draw cd__law_draw ct__law_draw), sl__law_draw⟩)
    (c__law_draw_ : PySem.W.codeIn K cd__law_draw "_law_draw" = true)
    (k__law_draw : PySem.W.keepIn K (.ref f__law_draw) = true)
    (a__law_pick : PySem.W.nsIn K mainGlobals "_law_pick" = some (some (.ref f__law_pick)))
    (l__law_pick : K.lookup f__law_pick = some ⟨oc__law_pick, od__law_pick, .func (PySem.W.fnOf "_law_pick" "_law_pick" (defArgs s__law_pick) (defBody s__law_pick) (defScope s__law_pick) .none kV__law_pick dc__law_pick pm__law_pick an__law_pick cd__law_pick ct__law_pick), sl__law_pick⟩)
    (c__law_pick_ : PySem.W.codeIn K cd__law_pick "_law_pick" = true)
    (k__law_pick : PySem.W.keepIn K (.ref f__law_pick) = true)
    (a__law_heard : PySem.W.nsIn K mainGlobals "_law_heard" = some (some (.ref f__law_heard)))
    (l__law_heard : K.lookup f__law_heard = some ⟨oc__law_heard, od__law_heard, .func (PySem.W.fnOf "_law_heard" "_law_heard" (defArgs s__law_heard) (defBody s__law_heard) (defScope s__law_heard) .none kV__law_heard dc__law_heard pm__law_heard an__law_heard cd__law_heard ct__law_heard), sl__law_heard⟩)
    (c__law_heard_ : PySem.W.codeIn K cd__law_heard "_law_heard" = true)
    (k__law_heard : PySem.W.keepIn K (.ref f__law_heard) = true)
    (a__law_is_count : PySem.W.nsIn K mainGlobals "_law_is_count" = some (some (.ref f__law_is_count)))
    (l__law_is_count : K.lookup f__law_is_count = some ⟨oc__law_is_count, od__law_is_count, .func (PySem.W.fnOf "_law_is_count" "_law_is_count" (defArgs s__law_is_count) (defBody s__law_is_count) (defScope s__law_is_count) .none kV__law_is_count dc__law_is_count pm__law_is_count an__law_is_count cd__law_is_count ct__law_is_count), sl__law_is_count⟩)
    (c__law_is_count_ : PySem.W.codeIn K cd__law_is_count "_law_is_count" = true)
    (k__law_is_count : PySem.W.keepIn K (.ref f__law_is_count) = true)
    (a__law_is_text : PySem.W.nsIn K mainGlobals "_law_is_text" = some (some (.ref f__law_is_text)))
    (l__law_is_text : K.lookup f__law_is_text = some ⟨oc__law_is_text, od__law_is_text, .func (PySem.W.fnOf "_law_is_text" "_law_is_text" (defArgs s__law_is_text) (defBody s__law_is_text) (defScope s__law_is_text) .none kV__law_is_text dc__law_is_text pm__law_is_text an__law_is_text cd__law_is_text ct__law_is_text), sl__law_is_text⟩)
    (c__law_is_text_ : PySem.W.codeIn K cd__law_is_text "_law_is_text" = true)
    (k__law_is_text : PySem.W.keepIn K (.ref f__law_is_text) = true)
    (a__law_bent : PySem.W.nsIn K mainGlobals "_law_bent" = some (some (.ref f__law_bent)))
    (l__law_bent : K.lookup f__law_bent = some ⟨oc__law_bent, od__law_bent, .func (PySem.W.fnOf "_law_bent" "_law_bent" (defArgs s__law_bent) (defBody s__law_bent) (defScope s__law_bent) .none kV__law_bent dc__law_bent pm__law_bent an__law_bent cd__law_bent ct__law_bent), sl__law_bent⟩)
    (c__law_bent_ : PySem.W.codeIn K cd__law_bent "_law_bent" = true)
    (k__law_bent : PySem.W.keepIn K (.ref f__law_bent) = true)
    (a_law : PySem.W.nsIn K mainGlobals "law" = some (some (.ref f_law)))
    (l_law : K.lookup f_law = some ⟨oc_law, od_law, .func (PySem.W.fnOf "law" "law" (defArgs s_law) (defBody s_law) (defScope s_law) .none kV_law dc_law pm_law an_law (.ref cc_law) ct_law), sl_law⟩)
    (c_law_ : PySem.W.codeIn K (.ref cc_law) "law" = true)
    (k_law : PySem.W.keepIn K (.ref f_law) = true)
    (z_isinstance : PySem.W.nsIn K mainGlobals "isinstance" = some none)
    (z_int : PySem.W.nsIn K mainGlobals "int" = some none)
    (z_bool : PySem.W.nsIn K mainGlobals "bool" = some none)
    (z_len : PySem.W.nsIn K mainGlobals "len" = some none)
    (z_tuple : PySem.W.nsIn K mainGlobals "tuple" = some none)
    (z_range : PySem.W.nsIn K mainGlobals "range" = some none)
    (z_list : PySem.W.nsIn K mainGlobals "list" = some none)
    (z_abs : PySem.W.nsIn K mainGlobals "abs" = some none)
    (z_str : PySem.W.nsIn K mainGlobals "str" = some none)
    (a_LAST_DAY : PySem.W.nsIn K mainGlobals "LAST_DAY" = some (some (.int 999999999999 t_LAST_DAY)))
    (a_DIGITS : PySem.W.nsIn K mainGlobals "DIGITS" = some (some (.int 12 t_DIGITS)))
    (h_Stay_MOST : PySem.W.findCls K (.ref c_Stay) (.type "type") "MOST" = some (.val (.int 400 t_Stay_MOST)))
    (hc_law : K.lookup cc_law = some cob_law)
    (ht_law : codeTab cob_law = some tp_law)
    (hb_law : codeB cob_law cc_law tp_law = true)
    (hg_law : h.get? tp_law = some { cls := .none, data := .fields #[] })
    (hn_law : K.lookup tp_law = none)
    : LawAtG l w K CX0 40 63 "script" mg fa h := by
  have F_is_whole := fun_mk (st := s_is_whole) l_is_whole c_is_whole_ k_is_whole
  have F_is_from := fun_mk (st := s_is_from) l_is_from c_is_from_ k_is_from
  have F_is_day := fun_mk (st := s_is_day) l_is_day c_is_day_ k_is_day
  have F_read_number := fun_mk (st := s_read_number) l_read_number c_read_number_ k_read_number
  have F_BadStay___init__ := fun_mk (st := s_BadStay___init__) l_BadStay___init__ c_BadStay___init___ k_BadStay___init__
  have F_BadText___init__ := fun_mk (st := s_BadText___init__) l_BadText___init__ c_BadText___init___ k_BadText___init__
  have F_Stay___init__ := fun_mk (st := s_Stay___init__) l_Stay___init__ c_Stay___init___ k_Stay___init__
  have F_Stay___eq__ := fun_mk (st := s_Stay___eq__) l_Stay___eq__ c_Stay___eq___ k_Stay___eq__
  have F_Stay___str__ := fun_mk (st := s_Stay___str__) l_Stay___str__ c_Stay___str___ k_Stay___str__
  have F_Stay_read := fun_mk (st := s_Stay_read) l_Stay_read c_Stay_read_ k_Stay_read
  have F__law_pen := fun_mk (st := s__law_pen) l__law_pen c__law_pen_ k__law_pen
  have F__law_draw := fun_mk (st := s__law_draw) l__law_draw c__law_draw_ k__law_draw
  have F__law_pick := fun_mk (st := s__law_pick) l__law_pick c__law_pick_ k__law_pick
  have F__law_heard := fun_mk (st := s__law_heard) l__law_heard c__law_heard_ k__law_heard
  have F__law_is_count := fun_mk (st := s__law_is_count) l__law_is_count c__law_is_count_ k__law_is_count
  have F__law_is_text := fun_mk (st := s__law_is_text) l__law_is_text c__law_is_text_ k__law_is_text
  have F__law_bent := fun_mk (st := s__law_bent) l__law_bent c__law_bent_ k__law_bent
  have F_law := fun_mk (st := s_law) l_law c_law_ k_law
  have e0 := PySem.W.codeHd_of_K X (codeB_in hc_law hb_law)
  have ef : f_law = fa := Value.ref.inj (Option.some.inj ((PySem.W.mg_of X G a_law).symm.trans hfa))
  exact law_at (T := {
    f_is_whole := f_is_whole
    d_is_whole := PySem.W.fnOf "is_whole" "is_whole" (defArgs s_is_whole) (defBody s_is_whole) (defScope s_is_whole) .none kV_is_whole dc_is_whole pm_is_whole an_is_whole cd_is_whole ct_is_whole
    f_is_from := f_is_from
    d_is_from := PySem.W.fnOf "is_from" "is_from" (defArgs s_is_from) (defBody s_is_from) (defScope s_is_from) .none kV_is_from dc_is_from pm_is_from an_is_from cd_is_from ct_is_from
    f_is_day := f_is_day
    d_is_day := PySem.W.fnOf "is_day" "is_day" (defArgs s_is_day) (defBody s_is_day) (defScope s_is_day) .none kV_is_day dc_is_day pm_is_day an_is_day cd_is_day ct_is_day
    f_read_number := f_read_number
    d_read_number := PySem.W.fnOf "read_number" "read_number" (defArgs s_read_number) (defBody s_read_number) (defScope s_read_number) .none kV_read_number dc_read_number pm_read_number an_read_number cd_read_number ct_read_number
    c_StayError := c_StayError
    c_BadStay := c_BadStay
    f_BadStay___init__ := f_BadStay___init__
    d_BadStay___init__ := PySem.W.fnOf "__init__" "BadStay.__init__" (defArgs s_BadStay___init__) (defBody s_BadStay___init__) (defScope s_BadStay___init__) .none kV_BadStay___init__ dc_BadStay___init__ pm_BadStay___init__ an_BadStay___init__ cd_BadStay___init__ ct_BadStay___init__
    c_BadText := c_BadText
    f_BadText___init__ := f_BadText___init__
    d_BadText___init__ := PySem.W.fnOf "__init__" "BadText.__init__" (defArgs s_BadText___init__) (defBody s_BadText___init__) (defScope s_BadText___init__) .none kV_BadText___init__ dc_BadText___init__ pm_BadText___init__ an_BadText___init__ cd_BadText___init__ ct_BadText___init__
    c_Stay := c_Stay
    f_Stay___init__ := f_Stay___init__
    d_Stay___init__ := PySem.W.fnOf "__init__" "Stay.__init__" (defArgs s_Stay___init__) (defBody s_Stay___init__) (defScope s_Stay___init__) .none kV_Stay___init__ dc_Stay___init__ pm_Stay___init__ an_Stay___init__ cd_Stay___init__ ct_Stay___init__
    f_Stay___eq__ := f_Stay___eq__
    d_Stay___eq__ := PySem.W.fnOf "__eq__" "Stay.__eq__" (defArgs s_Stay___eq__) (defBody s_Stay___eq__) (defScope s_Stay___eq__) .none kV_Stay___eq__ dc_Stay___eq__ pm_Stay___eq__ an_Stay___eq__ cd_Stay___eq__ ct_Stay___eq__
    f_Stay___str__ := f_Stay___str__
    d_Stay___str__ := PySem.W.fnOf "__str__" "Stay.__str__" (defArgs s_Stay___str__) (defBody s_Stay___str__) (defScope s_Stay___str__) .none kV_Stay___str__ dc_Stay___str__ pm_Stay___str__ an_Stay___str__ cd_Stay___str__ ct_Stay___str__
    f_Stay_read := f_Stay_read
    p_Stay_read := p_Stay_read
    d_Stay_read := PySem.W.fnOf "read" "Stay.read" (defArgs s_Stay_read) (defBody s_Stay_read) (defScope s_Stay_read) .none kV_Stay_read dc_Stay_read pm_Stay_read an_Stay_read cd_Stay_read ct_Stay_read
    f__law_pen := f__law_pen
    d__law_pen := PySem.W.fnOf "_law_pen" "_law_pen" (defArgs s__law_pen) (defBody s__law_pen) (defScope s__law_pen) .none kV__law_pen dc__law_pen pm__law_pen an__law_pen cd__law_pen ct__law_pen
    f__law_draw := f__law_draw
    d__law_draw := PySem.W.fnOf "_law_draw" "_law_draw" (defArgs s__law_draw) (defBody s__law_draw) (defScope s__law_draw) .none kV__law_draw dc__law_draw pm__law_draw an__law_draw cd__law_draw ct__law_draw
    f__law_pick := f__law_pick
    d__law_pick := PySem.W.fnOf "_law_pick" "_law_pick" (defArgs s__law_pick) (defBody s__law_pick) (defScope s__law_pick) .none kV__law_pick dc__law_pick pm__law_pick an__law_pick cd__law_pick ct__law_pick
    f__law_heard := f__law_heard
    d__law_heard := PySem.W.fnOf "_law_heard" "_law_heard" (defArgs s__law_heard) (defBody s__law_heard) (defScope s__law_heard) .none kV__law_heard dc__law_heard pm__law_heard an__law_heard cd__law_heard ct__law_heard
    f__law_is_count := f__law_is_count
    d__law_is_count := PySem.W.fnOf "_law_is_count" "_law_is_count" (defArgs s__law_is_count) (defBody s__law_is_count) (defScope s__law_is_count) .none kV__law_is_count dc__law_is_count pm__law_is_count an__law_is_count cd__law_is_count ct__law_is_count
    f__law_is_text := f__law_is_text
    d__law_is_text := PySem.W.fnOf "_law_is_text" "_law_is_text" (defArgs s__law_is_text) (defBody s__law_is_text) (defScope s__law_is_text) .none kV__law_is_text dc__law_is_text pm__law_is_text an__law_is_text cd__law_is_text ct__law_is_text
    f__law_bent := f__law_bent
    d__law_bent := PySem.W.fnOf "_law_bent" "_law_bent" (defArgs s__law_bent) (defBody s__law_bent) (defScope s__law_bent) .none kV__law_bent dc__law_bent pm__law_bent an__law_bent cd__law_bent ct__law_bent
    f_law := f_law
    d_law := PySem.W.fnOf "law" "law" (defArgs s_law) (defBody s_law) (defScope s_law) .none kV_law dc_law pm_law an_law (.ref cc_law) ct_law
    cc_law := cc_law
    tp_law := tp_law
    g_is_whole := PySem.W.mg_of X G a_is_whole
    F_is_whole := F_is_whole
    bd_is_whole := F_is_whole.binds (ps := ["value"]) fun _ _ _ _ _ _ us hl => match us, hl with | [_], _ => rfl
    g_is_from := PySem.W.mg_of X G a_is_from
    F_is_from := F_is_from
    bd_is_from := F_is_from.binds (ps := ["value", "least", "most"]) fun _ _ _ _ _ _ us hl => match us, hl with | [_, _, _], _ => rfl
    g_is_day := PySem.W.mg_of X G a_is_day
    F_is_day := F_is_day
    bd_is_day := F_is_day.binds (ps := ["value"]) fun _ _ _ _ _ _ us hl => match us, hl with | [_], _ => rfl
    g_read_number := PySem.W.mg_of X G a_read_number
    F_read_number := F_read_number
    bd_read_number := F_read_number.binds (ps := ["word"]) fun _ _ _ _ _ _ us hl => match us, hl with | [_], _ => rfl
    g_StayError := PySem.W.mg_of X G a_StayError
    g_BadStay := PySem.W.mg_of X G a_BadStay
    x_BadStay := ⟨⟨nm_BadStay, q_BadStay, N_BadStay, bs_BadStay, bm_BadStay, sn_BadStay, sub_BadStay, ab_BadStay, col_BadStay, dd_BadStay, m0_BadStay, m1_BadStay, m2_BadStay, m3_BadStay, m5_BadStay, h_BadStay_l, h_BadStay_bm⟩, h_BadStay_sa, h_BadStay_ex, h_BadStay_ty, h_BadStay_kp⟩
    xf_BadStay := ⟨h_BadStay_ga, h_BadStay_gg, h_BadStay_ex, h_BadStay_hd⟩
    xc_BadStay := ⟨h_BadStay_ga, h_BadStay_gg, h_BadStay_ex, h_BadStay_hd, h_BadStay_cls, h_cget, h_ctak, h_BadStay_mro⟩
    nx_BadStay_part := h_nx_BadStay_part
    fi_BadStay___init__ := a_BadStay___init__
    isf_BadStay___init__ := i_BadStay___init__
    F_BadStay___init__ := F_BadStay___init__
    bd_BadStay___init__ := F_BadStay___init__.binds (ps := ["self", "part"]) fun _ _ _ _ _ _ us hl => match us, hl with | [_, _], _ => rfl
    ti_BadStay := t_BadStay___init__
    g_BadText := PySem.W.mg_of X G a_BadText
    x_BadText := ⟨⟨nm_BadText, q_BadText, N_BadText, bs_BadText, bm_BadText, sn_BadText, sub_BadText, ab_BadText, col_BadText, dd_BadText, m0_BadText, m1_BadText, m2_BadText, m3_BadText, m5_BadText, h_BadText_l, h_BadText_bm⟩, h_BadText_sa, h_BadText_ex, h_BadText_ty, h_BadText_kp⟩
    xf_BadText := ⟨h_BadText_ga, h_BadText_gg, h_BadText_ex, h_BadText_hd⟩
    xc_BadText := ⟨h_BadText_ga, h_BadText_gg, h_BadText_ex, h_BadText_hd, h_BadText_cls, h_cget, h_ctak, h_BadText_mro⟩
    nx_BadText_line := h_nx_BadText_line
    nx_BadText_word := h_nx_BadText_word
    fi_BadText___init__ := a_BadText___init__
    isf_BadText___init__ := i_BadText___init__
    F_BadText___init__ := F_BadText___init__
    bd_BadText___init__ := F_BadText___init__.binds (ps := ["self", "line", "word"]) fun _ _ _ _ _ _ us hl => match us, hl with | [_, _, _], _ => rfl
    ti_BadText := t_BadText___init__
    g_Stay := PySem.W.mg_of X G a_Stay
    cl_Stay := ⟨h_Stay_pg, h_Stay_hd, h_Stay_po, h_Stay_sa⟩
    own_Stay := ⟨⟨h_Stay_pg, h_Stay_hd, h_Stay_po, h_Stay_sa⟩, h_Stay_cls, h_Stay_get, h_Stay_tak, h_Stay_mro⟩
    na_Stay_first := h_na_Stay_first
    na_Stay_after := h_na_Stay_after
    na_Stay__nights := h_na_Stay__nights
    fi_Stay___init__ := a_Stay___init__
    isf_Stay___init__ := i_Stay___init__
    F_Stay___init__ := F_Stay___init__
    bd_Stay___init__ := F_Stay___init__.binds (ps := ["self", "first", "after"]) fun _ _ _ _ _ _ us hl => match us, hl with | [_, _, _], _ => rfl
    fi_Stay___eq__ := a_Stay___eq__
    isf_Stay___eq__ := i_Stay___eq__
    F_Stay___eq__ := F_Stay___eq__
    bd_Stay___eq__ := F_Stay___eq__.binds (ps := ["self", "other"]) fun _ _ _ _ _ _ us hl => match us, hl with | [_, _], _ => rfl
    fi_Stay___str__ := a_Stay___str__
    isf_Stay___str__ := i_Stay___str__
    F_Stay___str__ := F_Stay___str__
    bd_Stay___str__ := F_Stay___str__.binds (ps := ["self"]) fun _ _ _ _ _ _ us hl => match us, hl with | [_], _ => rfl
    cr_Stay := ⟨h_Stay_rd, h_Stay_tg⟩
    F_Stay_read := F_Stay_read
    bd_Stay_read := F_Stay_read.binds (ps := ["cls", "text"]) fun _ _ _ _ _ _ us hl => match us, hl with | [_, _], _ => rfl
    cm_Stay_read := ⟨ca_Stay_read, ⟨_, cr_Stay_read⟩, cf_Stay_read⟩
    exm_BadText := h_exm_BadText
    exm_BadStay := h_exm_BadStay
    kit_BadText := h_kit_BadText
    kit_Stay := h_kit_Stay
    kit_Stay_int := h_kit_Stay_int
    kit_Stay_str := h_kit_Stay_str
    sb_Stay_NoneType := h_sb_Stay_NoneType
    kit_NoneType_Stay := h_kit_NoneType_Stay
    sb_Stay_bool := h_sb_Stay_bool
    kit_bool_Stay := h_kit_bool_Stay
    sb_Stay_int := h_sb_Stay_int
    kit_int_Stay := h_kit_int_Stay
    sb_Stay_str := h_sb_Stay_str
    kit_str_Stay := h_kit_str_Stay
    sb_Stay_tuple := h_sb_Stay_tuple
    kit_tuple_Stay := h_kit_tuple_Stay
    sb_Stay_list := h_sb_Stay_list
    kit_list_Stay := h_kit_list_Stay
    g__law_pen := PySem.W.mg_of X G a__law_pen
    F__law_pen := F__law_pen
    bd__law_pen := F__law_pen.binds (ps := ["script"]) fun _ _ _ _ _ _ us hl => match us, hl with | [_], _ => rfl
    g__law_draw := PySem.W.mg_of X G a__law_draw
    F__law_draw := F__law_draw
    bd__law_draw := F__law_draw.binds (ps := ["pen", "many"]) fun _ _ _ _ _ _ us hl => match us, hl with | [_, _], _ => rfl
    g__law_pick := PySem.W.mg_of X G a__law_pick
    F__law_pick := F__law_pick
    bd__law_pick := F__law_pick.binds (ps := ["pen", "some"]) fun _ _ _ _ _ _ us hl => match us, hl with | [_, _], _ => rfl
    g__law_heard := PySem.W.mg_of X G a__law_heard
    F__law_heard := F__law_heard
    bd__law_heard := F__law_heard.binds (ps := ["ask"]) fun _ _ _ _ _ _ us hl => match us, hl with | [_], _ => rfl
    g__law_is_count := PySem.W.mg_of X G a__law_is_count
    F__law_is_count := F__law_is_count
    bd__law_is_count := F__law_is_count.binds (ps := ["word", "figures"]) fun _ _ _ _ _ _ us hl => match us, hl with | [_, _], _ => rfl
    g__law_is_text := PySem.W.mg_of X G a__law_is_text
    F__law_is_text := F__law_is_text
    bd__law_is_text := F__law_is_text.binds (ps := ["line"]) fun _ _ _ _ _ _ us hl => match us, hl with | [_], _ => rfl
    g__law_bent := PySem.W.mg_of X G a__law_bent
    F__law_bent := F__law_bent
    bd__law_bent := F__law_bent.binds (ps := ["pen", "line"]) fun _ _ _ _ _ _ us hl => match us, hl with | [_, _], _ => rfl
    g_law := PySem.W.mg_of X G a_law
    F_law := F_law
    bd_law := F_law.binds (ps := ["script"]) fun _ _ _ _ _ _ us hl => match us, hl with | [_], _ => rfl
    b_isinstance := PySem.W.mg_none_of X G z_isinstance
    b_int := PySem.W.mg_none_of X G z_int
    b_bool := PySem.W.mg_none_of X G z_bool
    b_len := PySem.W.mg_none_of X G z_len
    b_tuple := PySem.W.mg_none_of X G z_tuple
    b_range := PySem.W.mg_none_of X G z_range
    b_list := PySem.W.mg_none_of X G z_list
    b_abs := PySem.W.mg_none_of X G z_abs
    b_str := PySem.W.mg_none_of X G z_str
    g_LAST_DAY := ⟨_, PySem.W.mg_of X G a_LAST_DAY⟩
    g_DIGITS := ⟨_, PySem.W.mg_of X G a_DIGITS⟩
    cv_Stay_MOST := ⟨_, h_Stay_MOST, ⟨_, rfl⟩⟩
    code_law := rfl
    mk_Stay := ⟨h_Stay_mk, a_Stay___init__, i_Stay___init__, h_Stay_kp⟩
    eq_Stay := ⟨a_Stay___eq__, i_Stay___eq__, h_Stay_ne, h_Stay_mro⟩
    sm_Stay___str__ := ⟨a_Stay___str__, i_Stay___str__⟩ }) ef e0 hg_law hn_law
end NN

open PySem PySem.W PyProof.Rows in
set_option maxHeartbeats 0 in
theorem PySem.Challenge.cw_nodeadnight_k16_texts_of_stays_holds : PySem.Challenge.rw_nodeadnight_k16_texts_of_stays.Holds := by
  w_on; o_law; k_head; (case hw => w_witness2)
  k_fill
  refine LamX.walk_ofG (l := PySem.Challenge.rw_nodeadnight_k16_texts_of_stays) (n := 63) (k := 40) (CX := fun _ => L2.CX0) (x := "script") rfl (by decide) rfl ⟨rfl, by decide, by decide⟩ (fun w h Y => PySem.W.km_in_of Y) ?F ?hCX
  case hCX => exact fun _ _ _ _ _ z => z
  case F =>
    intro w mg fa h Y KX G hmg
    refine' NN.all_mk (hfa := hmg) KX G ?a_is_whole ?l_is_whole ?c_is_whole_ ?k_is_whole ?a_is_from ?l_is_from ?c_is_from_ ?k_is_from ?a_is_day ?l_is_day ?c_is_day_ ?k_is_day ?a_read_number ?l_read_number ?c_read_number_ ?k_read_number ?a_StayError ?a_BadStay ?h_BadStay_l ?h_BadStay_bm ?h_BadStay_sa ?h_BadStay_ex ?h_BadStay_ty ?h_BadStay_kp ?h_BadStay_ga ?h_BadStay_gg ?h_BadStay_hd ?h_BadStay_cls ?h_BadStay_mro ?h_cget ?h_ctak ?h_nx_BadStay_part ?a_BadStay___init__ ?i_BadStay___init__ ?l_BadStay___init__ ?c_BadStay___init___ ?k_BadStay___init__ ?t_BadStay___init__ ?a_BadText ?h_BadText_l ?h_BadText_bm ?h_BadText_sa ?h_BadText_ex ?h_BadText_ty ?h_BadText_kp ?h_BadText_ga ?h_BadText_gg ?h_BadText_hd ?h_BadText_cls ?h_BadText_mro ?h_nx_BadText_line ?h_nx_BadText_word ?a_BadText___init__ ?i_BadText___init__ ?l_BadText___init__ ?c_BadText___init___ ?k_BadText___init__ ?t_BadText___init__ ?a_Stay ?h_Stay_pg ?h_Stay_hd ?h_Stay_po ?h_Stay_sa ?h_Stay_cls ?h_Stay_get ?h_Stay_tak ?h_Stay_mro ?h_na_Stay_first ?h_na_Stay_after ?h_na_Stay__nights ?h_Stay_mk ?h_Stay_kp ?a_Stay___init__ ?i_Stay___init__ ?l_Stay___init__ ?c_Stay___init___ ?k_Stay___init__ ?a_Stay___eq__ ?i_Stay___eq__ ?l_Stay___eq__ ?c_Stay___eq___ ?k_Stay___eq__ ?a_Stay___str__ ?i_Stay___str__ ?l_Stay___str__ ?c_Stay___str___ ?k_Stay___str__ ?h_Stay_ne ?h_Stay_rd ?h_Stay_tg ?ca_Stay_read ?cr_Stay_read ?cf_Stay_read ?l_Stay_read ?c_Stay_read_ ?k_Stay_read ?h_exm_BadText ?h_exm_BadStay ?h_kit_BadText ?h_kit_Stay ?h_kit_Stay_int ?h_kit_Stay_str ?h_sb_Stay_NoneType ?h_kit_NoneType_Stay ?h_sb_Stay_bool ?h_kit_bool_Stay ?h_sb_Stay_int ?h_kit_int_Stay ?h_sb_Stay_str ?h_kit_str_Stay ?h_sb_Stay_tuple ?h_kit_tuple_Stay ?h_sb_Stay_list ?h_kit_list_Stay ?a__law_pen ?l__law_pen ?c__law_pen_ ?k__law_pen ?a__law_draw ?l__law_draw ?c__law_draw_ ?k__law_draw ?a__law_pick ?l__law_pick ?c__law_pick_ ?k__law_pick ?a__law_heard ?l__law_heard ?c__law_heard_ ?k__law_heard ?a__law_is_count ?l__law_is_count ?c__law_is_count_ ?k__law_is_count ?a__law_is_text ?l__law_is_text ?c__law_is_text_ ?k__law_is_text ?a__law_bent ?l__law_bent ?c__law_bent_ ?k__law_bent ?a_law ?l_law ?c_law_ ?k_law ?z_isinstance ?z_int ?z_bool ?z_len ?z_tuple ?z_range ?z_list ?z_abs ?z_str ?a_LAST_DAY ?a_DIGITS ?h_Stay_MOST ?hc_law ?ht_law ?hb_law ?hg_law ?hn_law
    (case a_is_whole => k_is)
    (case l_is_whole => k_is)
    (case c_is_whole_ => k_is)
    (case k_is_whole => k_is)
    (case a_is_from => k_is)
    (case l_is_from => k_is)
    (case c_is_from_ => k_is)
    (case k_is_from => k_is)
    (case a_is_day => k_is)
    (case l_is_day => k_is)
    (case c_is_day_ => k_is)
    (case k_is_day => k_is)
    (case a_read_number => k_is)
    (case l_read_number => k_is)
    (case c_read_number_ => k_is)
    (case k_read_number => k_is)
    (case a_StayError => k_is)
    (case a_BadStay => k_is)
    (case h_BadStay_l => k_is)
    (case h_BadStay_bm => first | rfl | decide +kernel)
    (case h_BadStay_sa => k_is)
    (case h_BadStay_ex => k_is)
    (case h_BadStay_ty => k_is)
    (case h_BadStay_kp => k_is)
    (case h_BadStay_ga => k_is)
    (case h_BadStay_gg => k_is)
    (case h_BadStay_hd => k_is)
    (case h_BadStay_cls => k_is)
    (case h_BadStay_mro => k_is)
    (case h_cget => k_is)
    (case h_ctak => k_is)
    (case h_nx_BadStay_part => k_is)
    (case a_BadStay___init__ => k_is)
    (case i_BadStay___init__ => k_is)
    (case l_BadStay___init__ => k_is)
    (case c_BadStay___init___ => k_is)
    (case k_BadStay___init__ => k_is)
    (case t_BadStay___init__ => k_is)
    (case a_BadText => k_is)
    (case h_BadText_l => k_is)
    (case h_BadText_bm => first | rfl | decide +kernel)
    (case h_BadText_sa => k_is)
    (case h_BadText_ex => k_is)
    (case h_BadText_ty => k_is)
    (case h_BadText_kp => k_is)
    (case h_BadText_ga => k_is)
    (case h_BadText_gg => k_is)
    (case h_BadText_hd => k_is)
    (case h_BadText_cls => k_is)
    (case h_BadText_mro => k_is)
    (case h_nx_BadText_line => k_is)
    (case h_nx_BadText_word => k_is)
    (case a_BadText___init__ => k_is)
    (case i_BadText___init__ => k_is)
    (case l_BadText___init__ => k_is)
    (case c_BadText___init___ => k_is)
    (case k_BadText___init__ => k_is)
    (case t_BadText___init__ => k_is)
    (case a_Stay => k_is)
    (case h_Stay_pg => k_is)
    (case h_Stay_hd => k_is)
    (case h_Stay_po => k_is)
    (case h_Stay_sa => k_is)
    (case h_Stay_cls => k_is)
    (case h_Stay_get => k_is)
    (case h_Stay_tak => k_is)
    (case h_Stay_mro => k_is)
    (case h_na_Stay_first => k_is)
    (case h_na_Stay_after => k_is)
    (case h_na_Stay__nights => k_is)
    (case h_Stay_mk => k_is)
    (case h_Stay_kp => k_is)
    (case a_Stay___init__ => k_is)
    (case i_Stay___init__ => k_is)
    (case l_Stay___init__ => k_is)
    (case c_Stay___init___ => k_is)
    (case k_Stay___init__ => k_is)
    (case a_Stay___eq__ => k_is)
    (case i_Stay___eq__ => k_is)
    (case l_Stay___eq__ => k_is)
    (case c_Stay___eq___ => k_is)
    (case k_Stay___eq__ => k_is)
    (case a_Stay___str__ => k_is)
    (case i_Stay___str__ => k_is)
    (case l_Stay___str__ => k_is)
    (case c_Stay___str___ => k_is)
    (case k_Stay___str__ => k_is)
    (case h_Stay_ne => k_is)
    (case h_Stay_rd => k_is)
    (case h_Stay_tg => k_is)
    (case ca_Stay_read => k_is)
    (case cr_Stay_read => k_is)
    (case cf_Stay_read => k_is)
    (case l_Stay_read => k_is)
    (case c_Stay_read_ => k_is)
    (case k_Stay_read => k_is)
    (case h_exm_BadText => kts_exm)
    (case h_exm_BadStay => kts_exm)
    (case h_kit_BadText => kit_is)
    (case h_kit_Stay => kit_is)
    (case h_kit_Stay_int => kit_is)
    (case h_kit_Stay_str => kit_is)
    (case h_sb_Stay_NoneType => k_is)
    (case h_kit_NoneType_Stay => kit_is)
    (case h_sb_Stay_bool => k_is)
    (case h_kit_bool_Stay => kit_is)
    (case h_sb_Stay_int => k_is)
    (case h_kit_int_Stay => kit_is)
    (case h_sb_Stay_str => k_is)
    (case h_kit_str_Stay => kit_is)
    (case h_sb_Stay_tuple => k_is)
    (case h_kit_tuple_Stay => kit_is)
    (case h_sb_Stay_list => k_is)
    (case h_kit_list_Stay => kit_is)
    (case a__law_pen => k_is)
    (case l__law_pen => k_is)
    (case c__law_pen_ => k_is)
    (case k__law_pen => k_is)
    (case a__law_draw => k_is)
    (case l__law_draw => k_is)
    (case c__law_draw_ => k_is)
    (case k__law_draw => k_is)
    (case a__law_pick => k_is)
    (case l__law_pick => k_is)
    (case c__law_pick_ => k_is)
    (case k__law_pick => k_is)
    (case a__law_heard => k_is)
    (case l__law_heard => k_is)
    (case c__law_heard_ => k_is)
    (case k__law_heard => k_is)
    (case a__law_is_count => k_is)
    (case l__law_is_count => k_is)
    (case c__law_is_count_ => k_is)
    (case k__law_is_count => k_is)
    (case a__law_is_text => k_is)
    (case l__law_is_text => k_is)
    (case c__law_is_text_ => k_is)
    (case k__law_is_text => k_is)
    (case a__law_bent => k_is)
    (case l__law_bent => k_is)
    (case c__law_bent_ => k_is)
    (case k__law_bent => k_is)
    (case a_law => k_is)
    (case l_law => k_is)
    (case c_law_ => k_is)
    (case k_law => k_is)
    (case z_isinstance => k_is)
    (case z_int => k_is)
    (case z_bool => k_is)
    (case z_len => k_is)
    (case z_tuple => k_is)
    (case z_range => k_is)
    (case z_list => k_is)
    (case z_abs => k_is)
    (case z_str => k_is)
    (case a_LAST_DAY => k_is)
    (case a_DIGITS => k_is)
    (case h_Stay_MOST => k_is)
    (case hc_law => k_is)
    (case ht_law => rfl)
    (case hb_law => first | rfl | decide +kernel)
    (case hg_law => exact PySem.W.km_tabs_of Y _ (by decide))
    (case hn_law => exact NN.none_of Y (by decide))
#print axioms PySem.Challenge.cw_nodeadnight_k16_texts_of_stays_holds
