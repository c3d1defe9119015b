import PyProof.Rows.All
import Wide.All
import OpenK.AllK
import Wide.FinOn
import KE.KStateDown
import HandS.Head0
import HandS.Head1
import HandS.Head2
import HandS.HeadEnd
import HandS.HeadHook1
import HandS.HeadHook2
import HandS.HeadHook3
import HandS.HeadHook4
import HandS.HeadWalk
import HandS.ForMost
import HandS.More
import HandS.IsInst
import HandS.FStr
import HandS.TupAny
import HandS.StrMore
import HandS.SetKeys
import HandS.AnyAll
import HandS.ExcIs
import HandS.ExcField
import HandS.ExcInit
import KE.KExcSuper
import HandS.Nested
import HandS.Words
import HandS.ExcSuper
import HandS.Evl
import KE.GoesEnum
import HandS.Zip
import HandS.Walk
import PyProof.Rows.TmSorted
import KE.KNest
import HandS.OwnEq
import HandS.List
import PyProof.P3Statements
import PyProof.FString4
import HandS.WordsExc
import KE.KExcIs
import HandS.SetBool
import PyProof.EqAt
import PyProof.EqKinds
import HandS.Comp
import HandS.Set
import HandS.ExcOwn
import HandS.Exc
import HandS.TryOnly
import HandS.TryMany
import HandS.RaiseMore
import PyProof.Rows.StrMul
import PyProof.Rows.StrCut
import HandS.SetFor
import HandS.Strs
import PySem.Challenge.RW_scopefree_k02_what_does_not_fit
set_option Elab.async false
set_option linter.all false
set_option maxRecDepth 100000
section
set_option Elab.async false
set_option linter.all false
set_option maxRecDepth 100000
namespace Kp
open PySem PySem.Spec PyProof.Rows L2 NdefX
/-- what stands of such a def and its class -/
structure Sup (P : Program) (K : PySem.W.Frag) (mg : Str → Option Value) (C f : Addr) (fd : FuncData) (F : NF) (cc : Addr) : Prop where
  ex : ∃ (oc : Value) (od : Option Addr) (kV doc pm ct : Value) (an : Option Addr) (osl : Array (Option Value)), fd = PySem.W.fnX F.name F.qual F.params F.body F.scope F.cl .none kV doc pm an (.ref F.c) ct ∧ K.lookup f = some ⟨oc, od, .func fd, osl⟩
  code : PySem.W.codeIn K (.ref F.c) F.qual = true
  cl : F.cl = [(("__class__" : Str), cc)]
  file : ∃ (ccl : Value) (cdd : Option Addr) (vs : Array Value) (ccs : Array (Option Value)) (fl : Str) (tf : Tok), K.lookup F.c = some ⟨ccl, cdd, .fields vs, ccs⟩ ∧ vs[2]? = some (.str fl tf) ∧ ((P.main.file : Str) == fl) = true
  cell : ∃ (a : Value) (b : Option Addr) (z : Array (Option Value)), K.lookup cc = some ⟨a, b, .cell (some (.ref C)), z⟩
  sub : PySem.W.mroIn K C (.ref C) = some true
  isV : PySem.W.subIn K (.ref C) (.type "ValueError") = some true
  st : PySem.W.nsIn K cStatics "thirdparty.any" = some none
  init : PySem.W.ks_superIn K C C "__init__" = some (some (.builtin "ValueError.__init__"))
  top : (P.main.scope.names.lookup ("super" : Str)).isSome = false
  nog : mg "super" = none
def nfB (st : Stmt) (x qual : Str) (cc c : Addr) : NF := ⟨x, qual, defArgs st, defBody st, defScope st, [(("__class__" : Str), cc)], c⟩
end Kp
end
section
set_option linter.all false
/-! The trees of the laws' programs, their lines, scopes, points and edges: what the laws' builder lays, and what the program's layout tells. Plain Lean. -/
namespace Ka
inductive Ln where
  | num (x n : Nat) | copy (x y : Nat) | pair (x y z : Nat) | hd (x y : Nat) | tl (x y : Nat) | prt (x : Nat)
  deriving DecidableEq
inductive Kd where | prog | block | iff | els | whl
  deriving DecidableEq
inductive Stm where | pl (l : Ln) | block | iff | els | whl | fin
  deriving DecidableEq
inductive Tree where
  | nil
  | ln (l : Ln) (r : Tree)
  | blk (w : Bool) (b r : Tree)
  | br (a b r : Tree)
inductive Lab where | line (l : Ln) | enter (n : Nat) | leave (n : Nat) | pass
  deriving DecidableEq
structure Edge where
  s : Nat
  l : Lab
  t : Nat
namespace Tree
def kd (w : Bool) : Kd := if w then .whl else .block
def st (w : Bool) : Stm := if w then .whl else .block
def app : Tree → Tree → Tree
  | nil, u => u
  | ln l r, u => ln l (app r u)
  | blk w b r, u => blk w b (app r u)
  | br a b r, u => br a b (app r u)
def flat : Tree → List Stm
  | nil => []
  | ln l r => .pl l :: flat r
  | blk w b r => st w :: (flat b ++ .fin :: flat r)
  | br a b r => .iff :: (flat a ++ .els :: (flat b ++ .fin :: flat r))
def len : Tree → Nat
  | nil => 0
  | ln _ r => 1 + len r
  | blk _ b r => 2 + len b + len r
  | br a b r => 3 + len a + len b + len r
def nsc : Tree → Nat
  | nil => 0
  | ln _ r => nsc r
  | blk _ b r => 1 + nsc b + nsc r
  | br a b r => 2 + nsc a + nsc b + nsc r
def high : Tree → Nat
  | nil => 0
  | ln _ r => high r
  | blk _ b r => max (1 + high b) (high r)
  | br a b r => max (max (1 + high a) (1 + high b)) (high r)
def kinds : Tree → List Kd
  | nil => []
  | ln _ r => kinds r
  | blk w b r => kd w :: (kinds b ++ kinds r)
  | br a b r => .iff :: (kinds a ++ .els :: (kinds b ++ kinds r))
def starts : Tree → Nat → List Nat
  | nil, _ => []
  | ln _ r, k => starts r (k + 1)
  | blk _ b r, k => k :: (starts b (k + 1) ++ starts r (k + 2 + len b))
  | br a b r, k => k :: (starts a (k + 1) ++ (k + 1 + len a) :: (starts b (k + 2 + len a) ++ starts r (k + 3 + len a + len b)))
def ends : Tree → Nat → List Nat
  | nil, _ => []
  | ln _ r, k => ends r (k + 1)
  | blk _ b r, k => (k + 1 + len b) :: (ends b (k + 1) ++ ends r (k + 2 + len b))
  | br a b r, k => (k + 1 + len a) :: (ends a (k + 1) ++ (k + 2 + len a + len b) :: (ends b (k + 2 + len a) ++ ends r (k + 3 + len a + len b)))
def parents : Tree → Nat → Nat → List Nat
  | nil, _, _ => []
  | ln _ r, s, n => parents r s n
  | blk _ b r, s, n => s :: (parents b n (n + 1) ++ parents r s (n + 1 + nsc b))
  | br a b r, s, n => s :: (parents a n (n + 1) ++ s :: (parents b (n + 1 + nsc a) (n + 2 + nsc a) ++ parents r s (n + 2 + nsc a + nsc b)))
def deps : Tree → Nat → List Nat
  | nil, _ => []
  | ln _ r, d => deps r d
  | blk _ b r, d => d :: (deps b (d + 1) ++ deps r d)
  | br a b r, d => d :: (deps a (d + 1) ++ d :: (deps b (d + 1) ++ deps r d))
/-- the scope of the point behind each line -/
def pts : Tree → Nat → Nat → List Nat
  | nil, _, _ => []
  | ln _ r, s, n => s :: pts r s n
  | blk _ b r, s, n => n :: (pts b n (n + 1) ++ s :: pts r s (n + 1 + nsc b))
  | br a b r, s, n => n :: (pts a n (n + 1) ++ (n + 1 + nsc a) :: (pts b (n + 1 + nsc a) (n + 2 + nsc a) ++ s :: pts r s (n + 2 + nsc a + nsc b)))
/-- the scope of the point ahead of each line -/
def lsc : Tree → Nat → Nat → List Nat
  | nil, _, _ => []
  | ln _ r, s, n => s :: lsc r s n
  | blk _ b r, s, n => s :: (lsc b n (n + 1) ++ n :: lsc r s (n + 1 + nsc b))
  | br a b r, s, n => s :: (lsc a n (n + 1) ++ n :: (lsc b (n + 1 + nsc a) (n + 2 + nsc a) ++ (n + 1 + nsc a) :: lsc r s (n + 2 + nsc a + nsc b)))
/-- the depth of each line -/
def ldeps : Tree → Nat → List Nat
  | nil, _ => []
  | ln _ r, d => d :: ldeps r d
  | blk _ b r, d => d :: (ldeps b (d + 1) ++ d :: ldeps r d)
  | br a b r, d => d :: (ldeps a (d + 1) ++ d :: (ldeps b (d + 1) ++ d :: ldeps r d))
def begun : Tree → Nat → Nat → List (Nat × Nat)
  | nil, _, _ => []
  | ln _ r, k, n => begun r (k + 1) n
  | blk _ b r, k, n => (k, n) :: (begun b (k + 1) (n + 1) ++ begun r (k + 2 + len b) (n + 1 + nsc b))
  | br a b r, k, n => (k, n) :: (begun a (k + 1) (n + 1) ++ (k + 1 + len a, n + 1 + nsc a) :: (begun b (k + 2 + len a) (n + 2 + nsc a) ++ begun r (k + 3 + len a + len b) (n + 2 + nsc a + nsc b)))
def ended : Tree → Nat → Nat → List (Nat × Nat)
  | nil, _, _ => []
  | ln _ r, k, n => ended r (k + 1) n
  | blk _ b r, k, n => ended b (k + 1) (n + 1) ++ (k + 1 + len b, n) :: ended r (k + 2 + len b) (n + 1 + nsc b)
  | br a b r, k, n => ended a (k + 1) (n + 1) ++ (k + 1 + len a, n) :: (ended b (k + 2 + len a) (n + 2 + nsc a) ++ (k + 2 + len a + len b, n + 1 + nsc a) :: ended r (k + 3 + len a + len b) (n + 2 + nsc a + nsc b))
/-- the edges as the law lays them -/
def lE : Tree → Nat → Nat → List Edge
  | nil, _, _ => []
  | ln l r, k, n => ⟨k, .line l, k + 1⟩ :: lE r (k + 1) n
  | blk w b r, k, n => ⟨k, .enter n, k + 1⟩ :: (lE b (k + 1) (n + 1) ++ ((if w then [⟨k, .pass, k + 2 + len b⟩] else []) ++ ⟨k + 1 + len b, .leave n, if w then k else k + 2 + len b⟩ :: lE r (k + 2 + len b) (n + 1 + nsc b)))
  | br a b r, k, n => ⟨k, .enter n, k + 1⟩ :: (lE a (k + 1) (n + 1) ++ ⟨k, .enter (n + 1 + nsc a), k + 2 + len a⟩ :: (lE b (k + 2 + len a) (n + 2 + nsc a) ++
      ⟨k + 1 + len a, .leave n, k + 3 + len a + len b⟩ :: ⟨k + 2 + len a + len b, .leave (n + 1 + nsc a), k + 3 + len a + len b⟩ :: lE r (k + 3 + len a + len b) (n + 2 + nsc a + nsc b)))
/-- the edges in order -/
def pE : Tree → Nat → Nat → List Edge
  | nil, _, _ => []
  | ln l r, k, n => ⟨k, .line l, k + 1⟩ :: pE r (k + 1) n
  | blk w b r, k, n => ⟨k, .enter n, k + 1⟩ :: ((if w then [⟨k, .pass, k + 2 + len b⟩] else []) ++ (pE b (k + 1) (n + 1) ++ ⟨k + 1 + len b, .leave n, if w then k else k + 2 + len b⟩ :: pE r (k + 2 + len b) (n + 1 + nsc b)))
  | br a b r, k, n => ⟨k, .enter n, k + 1⟩ :: ⟨k, .enter (n + 1 + nsc a), k + 2 + len a⟩ :: (pE a (k + 1) (n + 1) ++ ⟨k + 1 + len a, .leave n, k + 3 + len a + len b⟩ :: (pE b (k + 2 + len a) (n + 2 + nsc a) ++
      ⟨k + 2 + len a + len b, .leave (n + 1 + nsc a), k + 3 + len a + len b⟩ :: pE r (k + 3 + len a + len b) (n + 2 + nsc a + nsc b)))
end Tree
open Tree

theorem flat_len (T : Tree) : T.flat.length = T.len := by
  induction T with
  | nil => rfl
  | ln l r ih => simp only [flat, len, List.length_cons, ih]; omega
  | blk w b r ihb ihr => simp only [flat, len, List.length_cons, List.length_append, ihb, ihr]; omega
  | br a b r iha ihb ihr => simp only [flat, len, List.length_cons, List.length_append, iha, ihb, ihr]; omega
theorem kinds_len (T : Tree) : T.kinds.length = T.nsc := by
  induction T with
  | nil => rfl
  | ln l r ih => simp only [kinds, nsc, ih]
  | blk w b r ihb ihr => simp only [kinds, nsc, List.length_cons, List.length_append, ihb, ihr]; omega
  | br a b r iha ihb ihr => simp only [kinds, nsc, List.length_cons, List.length_append, iha, ihb, ihr]; omega
theorem starts_len (T : Tree) : ∀ k, (T.starts k).length = T.nsc := by
  induction T with
  | nil => intro k; rfl
  | ln l r ih => intro k; simp only [starts, nsc, ih]
  | blk w b r ihb ihr => intro k; simp only [starts, nsc, List.length_cons, List.length_append, ihb, ihr]; omega
  | br a b r iha ihb ihr => intro k; simp only [starts, nsc, List.length_cons, List.length_append, iha, ihb, ihr]; omega
theorem ends_len (T : Tree) : ∀ k, (T.ends k).length = T.nsc := by
  induction T with
  | nil => intro k; rfl
  | ln l r ih => intro k; simp only [ends, nsc, ih]
  | blk w b r ihb ihr => intro k; simp only [ends, nsc, List.length_cons, List.length_append, ihb, ihr]; omega
  | br a b r iha ihb ihr => intro k; simp only [ends, nsc, List.length_cons, List.length_append, iha, ihb, ihr]; omega
theorem parents_len (T : Tree) : ∀ s n, (T.parents s n).length = T.nsc := by
  induction T with
  | nil => intro s n; rfl
  | ln l r ih => intro s n; simp only [parents, nsc, ih]
  | blk w b r ihb ihr => intro s n; simp only [parents, nsc, List.length_cons, List.length_append, ihb, ihr]; omega
  | br a b r iha ihb ihr => intro s n; simp only [parents, nsc, List.length_cons, List.length_append, iha, ihb, ihr]; omega
theorem deps_len (T : Tree) : ∀ d, (T.deps d).length = T.nsc := by
  induction T with
  | nil => intro d; rfl
  | ln l r ih => intro d; simp only [deps, nsc, ih]
  | blk w b r ihb ihr => intro d; simp only [deps, nsc, List.length_cons, List.length_append, ihb, ihr]; omega
  | br a b r iha ihb ihr => intro d; simp only [deps, nsc, List.length_cons, List.length_append, iha, ihb, ihr]; omega
theorem pts_len (T : Tree) : ∀ s n, (T.pts s n).length = T.len := by
  induction T with
  | nil => intro s n; rfl
  | ln l r ih => intro s n; simp only [pts, len, List.length_cons, ih]; omega
  | blk w b r ihb ihr => intro s n; simp only [pts, len, List.length_cons, List.length_append, ihb, ihr]; omega
  | br a b r iha ihb ihr => intro s n; simp only [pts, len, List.length_cons, List.length_append, iha, ihb, ihr]; omega
theorem lsc_len (T : Tree) : ∀ s n, (T.lsc s n).length = T.len := by
  induction T with
  | nil => intro s n; rfl
  | ln l r ih => intro s n; simp only [lsc, len, List.length_cons, ih]; omega
  | blk w b r ihb ihr => intro s n; simp only [lsc, len, List.length_cons, List.length_append, ihb, ihr]; omega
  | br a b r iha ihb ihr => intro s n; simp only [lsc, len, List.length_cons, List.length_append, iha, ihb, ihr]; omega
/-- the points' scopes, told from ahead and from behind -/
theorem pts_lsc (T : Tree) : ∀ s n, s :: T.pts s n = T.lsc s n ++ [s] := by
  induction T with
  | nil => intro s n; rfl
  | ln l r ih => intro s n; simp only [pts, lsc, List.cons_append]; rw [← ih]
  | blk w b r ihb ihr =>
    intro s n
    simp only [pts, lsc, List.cons_append, List.append_assoc]
    rw [← ihr, ← List.cons_append, ihb, List.append_assoc, List.singleton_append]
  | br a b r iha ihb ihr =>
    intro s n
    simp only [pts, lsc, List.cons_append, List.append_assoc]
    rw [← ihr, ← List.cons_append, iha, List.append_assoc, List.singleton_append]
    congr 3
    rw [← List.cons_append, ihb, List.append_assoc, List.singleton_append]

/-! ### the edges, by their first points -/
theorem lE_range (T : Tree) : ∀ k n e, e ∈ T.lE k n → k ≤ e.s ∧ e.s < k + T.len := by
  induction T with
  | nil => intro k n e h; cases h
  | ln l r ih =>
    intro k n e h
    simp only [lE, len, List.mem_cons] at h ⊢
    rcases h with rfl | h
    · exact ⟨Nat.le_refl _, by show k < _; omega⟩
    · have := ih _ _ _ h; omega
  | blk w b r ihb ihr =>
    intro k n e h
    simp only [lE, len, List.mem_cons, List.mem_append] at h ⊢
    rcases h with rfl | h | h | rfl | h
    · exact ⟨Nat.le_refl _, by show k < _; omega⟩
    · have := ihb _ _ _ h; omega
    · cases w
      · cases h
      · simp only [if_true, List.mem_singleton] at h; subst h; exact ⟨Nat.le_refl _, by show k < _; omega⟩
    · exact ⟨by show k ≤ k + 1 + _; omega, by show k + 1 + _ < _; omega⟩
    · have := ihr _ _ _ h; omega
  | br a b r iha ihb ihr =>
    intro k n e h
    simp only [lE, len, List.mem_cons, List.mem_append] at h ⊢
    rcases h with rfl | h | rfl | h | rfl | rfl | h
    · exact ⟨Nat.le_refl _, by show k < _; omega⟩
    · have := iha _ _ _ h; omega
    · exact ⟨Nat.le_refl _, by show k < _; omega⟩
    · have := ihb _ _ _ h; omega
    · exact ⟨by show k ≤ k + 1 + _; omega, by show k + 1 + _ < _; omega⟩
    · exact ⟨by show k ≤ k + 2 + _ + _; omega, by show k + 2 + _ + _ < _; omega⟩
    · have := ihr _ _ _ h; omega
abbrev from_ (p : Nat) : Edge → Bool := fun e => decide (e.s = p)
theorem none_from {l : List Edge} {p : Nat} (h : ∀ e ∈ l, e.s ≠ p) : l.filter (from_ p) = [] :=
  List.filter_eq_nil_iff.mpr fun e he => by simp [from_, h e he]
theorem from_pos {e : Edge} {l : List Edge} {p : Nat} (h : e.s = p) : (e :: l).filter (from_ p) = e :: l.filter (from_ p) := List.filter_cons_of_pos (by simp [from_, h])
theorem from_neg {e : Edge} {l : List Edge} {p : Nat} (h : e.s ≠ p) : (e :: l).filter (from_ p) = l.filter (from_ p) := List.filter_cons_of_neg (by simp [from_, h])
theorem fp {p t : Nat} {l : Lab} {m : List Edge} : ((⟨p, l, t⟩ : Edge) :: m).filter (from_ p) = ⟨p, l, t⟩ :: m.filter (from_ p) := from_pos rfl
theorem fn {s p t : Nat} {l : Lab} {m : List Edge} (h : s ≠ p) : ((⟨s, l, t⟩ : Edge) :: m).filter (from_ p) = m.filter (from_ p) := from_neg h
theorem lE_pE (T : Tree) : ∀ k n p, (T.lE k n).filter (from_ p) = (T.pE k n).filter (from_ p) := by
  induction T with
  | nil => intro k n p; rfl
  | ln l r ih => intro k n p; simp only [lE, pE, List.filter_cons, ih]
  | blk w b r ihb ihr =>
    intro k n p
    simp only [lE, pE]
    by_cases hp : p = k
    · subst hp
      have nb : (b.lE (p + 1) (n + 1)).filter (from_ p) = [] := none_from fun e he z => by have := lE_range b _ _ _ he; omega
      have nb' := (ihb (p + 1) (n + 1) p).symm.trans nb
      rw [fp, fp, List.filter_append, List.filter_append, List.filter_append, List.filter_append, nb, nb', fn (by omega), fn (by omega), ihr]
      rfl
    · have hk : k ≠ p := fun z => hp z.symm
      rw [fn hk, fn hk]
      have nw : (if w = true then [(⟨k, .pass, k + 2 + b.len⟩ : Edge)] else []).filter (from_ p) = [] := none_from fun e he z => by
        cases w
        · cases he
        · simp only [if_true, List.mem_singleton] at he; subst he; exact hp z.symm
      rw [List.filter_append, List.filter_append, List.filter_append, List.filter_append, nw, ihb, List.filter_cons, List.filter_cons, ihr]
      rfl
  | br a b r iha ihb ihr =>
    intro k n p
    simp only [lE, pE]
    by_cases hp : p = k
    · subst hp
      have na : (a.lE (p + 1) (n + 1)).filter (from_ p) = [] := none_from fun e he z => by have := lE_range a _ _ _ he; omega
      have na' := (iha (p + 1) (n + 1) p).symm.trans na
      have nb : (b.lE (p + 2 + a.len) (n + 2 + a.nsc)).filter (from_ p) = [] := none_from fun e he z => by have := lE_range b _ _ _ he; omega
      have nb' := (ihb (p + 2 + a.len) (n + 2 + a.nsc) p).symm.trans nb
      rw [fp, fp, fp, List.filter_append, List.filter_append, na, na', List.nil_append, List.nil_append, fp, fn (by omega), List.filter_append, List.filter_append, nb, nb',
        List.nil_append, List.nil_append, fn (by omega), fn (by omega), fn (by omega), ihr]
    · have hk : k ≠ p := fun z => hp z.symm
      rw [fn hk, fn hk, fn hk, List.filter_append, List.filter_append, iha, fn hk, List.filter_append]
      by_cases hq : p = k + 1 + a.len
      · have nb : (b.lE (k + 2 + a.len) (n + 2 + a.nsc)).filter (from_ p) = [] := none_from fun e he z => by have := lE_range b _ _ _ he; omega
        have nb' := (ihb (k + 2 + a.len) (n + 2 + a.nsc) p).symm.trans nb
        subst hq
        rw [nb, List.nil_append, fp, fp, List.filter_append, nb', List.nil_append, fn (by omega), fn (by omega), ihr]
      · have hq' : k + 1 + a.len ≠ p := fun z => hq z.symm
        rw [fn hq', fn hq', List.filter_append, ihb, List.filter_cons, List.filter_cons, ihr]
/-- the edges in order rise -/
def Rising : Nat → Nat → List Edge → Prop
  | lo, hi, [] => lo ≤ hi
  | lo, hi, e :: l => lo ≤ e.s ∧ e.s < hi ∧ Rising e.s hi l
theorem Rising.low {lo lo' hi : Nat} : ∀ {l : List Edge}, Rising lo hi l → lo' ≤ lo → Rising lo' hi l
  | [], h, q => Nat.le_trans q h
  | e :: l, h, q => ⟨Nat.le_trans q h.1, h.2⟩
theorem Rising.append {lo mid hi : Nat} : ∀ {l m : List Edge}, Rising lo mid l → Rising mid hi m → mid ≤ hi → Rising lo hi (l ++ m)
  | [], m, h, g, _ => g.low h
  | e :: l, m, h, g, q => ⟨h.1, Nat.lt_of_lt_of_le h.2.1 q, Rising.append h.2.2 g q⟩
theorem pE_rising (T : Tree) : ∀ k n, Rising k (k + T.len) (T.pE k n) := by
  induction T with
  | nil => intro k n; exact Nat.le_refl _
  | ln l r ih =>
    intro k n
    simp only [pE, len]
    refine ⟨Nat.le_refl _, by show k < _; omega, ?_⟩
    have q := (ih (k + 1) n).low (lo' := k) (by omega)
    rw [show k + (1 + r.len) = k + 1 + r.len by omega]
    exact q
  | blk w b r ihb ihr =>
    intro k n
    simp only [pE, len]
    refine ⟨Nat.le_refl _, by show k < _; omega, ?_⟩
    have qr := ihr (k + 2 + b.len) (n + 1 + b.nsc)
    rw [show k + (2 + b.len + r.len) = k + 2 + b.len + r.len by omega]
    have q1 : Rising (k + 1 + b.len) (k + 2 + b.len + r.len) (⟨k + 1 + b.len, .leave n, if w then k else k + 2 + b.len⟩ :: r.pE (k + 2 + b.len) (n + 1 + b.nsc)) :=
      ⟨Nat.le_refl _, by show k + 1 + b.len < _; omega, qr.low (by show k + 1 + b.len ≤ _; omega)⟩
    have q2 := Rising.append (ihb (k + 1) (n + 1)) q1 (by omega)
    cases w
    · exact q2.low (by show k ≤ k + 1; omega)
    · exact ⟨Nat.le_refl _, by show k < _; omega, q2.low (by show k ≤ k + 1; omega)⟩
  | br a b r iha ihb ihr =>
    intro k n
    simp only [pE, len]
    have qr := ihr (k + 3 + a.len + b.len) (n + 2 + a.nsc + b.nsc)
    rw [show k + (3 + a.len + b.len + r.len) = k + 3 + a.len + b.len + r.len by omega]
    have q1 : Rising (k + 2 + a.len + b.len) (k + 3 + a.len + b.len + r.len) (⟨k + 2 + a.len + b.len, .leave (n + 1 + a.nsc), k + 3 + a.len + b.len⟩ :: r.pE (k + 3 + a.len + b.len) (n + 2 + a.nsc + b.nsc)) :=
      ⟨Nat.le_refl _, by show k + 2 + a.len + b.len < _; omega, qr.low (by show k + 2 + a.len + b.len ≤ _; omega)⟩
    have q2 := Rising.append (ihb (k + 2 + a.len) (n + 2 + a.nsc)) q1 (by omega)
    have q3 : Rising (k + 1 + a.len) (k + 3 + a.len + b.len + r.len) (⟨k + 1 + a.len, .leave n, k + 3 + a.len + b.len⟩ :: (b.pE (k + 2 + a.len) (n + 2 + a.nsc) ++ ⟨k + 2 + a.len + b.len, .leave (n + 1 + a.nsc), k + 3 + a.len + b.len⟩ :: r.pE (k + 3 + a.len + b.len) (n + 2 + a.nsc + b.nsc))) :=
      ⟨Nat.le_refl _, by show k + 1 + a.len < _; omega, q2.low (by show k + 1 + a.len ≤ _; omega)⟩
    have q4 := Rising.append (iha (k + 1) (n + 1)) q3 (by omega)
    exact ⟨Nat.le_refl _, by show k < _; omega, Nat.le_refl _, by show k < _; omega, q4.low (by show k ≤ k + 1; omega)⟩
theorem rising_mem {lo hi : Nat} : ∀ {l : List Edge}, Rising lo hi l → ∀ e ∈ l, lo ≤ e.s ∧ e.s < hi
  | e :: l, h, x, hx => by
    rcases List.mem_cons.mp hx with rfl | hx
    · exact ⟨h.1, h.2.1⟩
    · have := rising_mem h.2.2 x hx; exact ⟨Nat.le_trans h.1 this.1, this.2⟩
/-- gathered point by point, rising edges are themselves -/
theorem gather : ∀ (m lo : Nat) (l : List Edge), Rising lo (lo + m) l → ((List.range' lo m).map (fun p => l.filter (from_ p))).flatten = l
  | 0, lo, l, h => by
    cases l with
    | nil => rfl
    | cons e l => have h1 := h.1; have h2 := h.2.1; omega
  | m + 1, lo, l, h => by
    rw [List.range'_succ, List.map_cons, List.flatten_cons]
    -- those from lo stand first
    have key : ∀ (l : List Edge), Rising lo (lo + (m + 1)) l → ∃ l2, l = l.filter (from_ lo) ++ l2 ∧ Rising (lo + 1) (lo + 1 + m) l2 := by
      intro l
      induction l with
      | nil => intro _; exact ⟨[], rfl, by show lo + 1 ≤ lo + 1 + m; omega⟩
      | cons e l ih =>
        intro h
        by_cases he : e.s = lo
        · have h3 := h.2.2
          rw [he] at h3
          obtain ⟨l2, e2, r2⟩ := ih h3
          refine ⟨l2, ?_, r2⟩
          rw [from_pos he, List.cons_append, ← e2]
        · have hlt : lo + 1 ≤ e.s := by have := h.1; omega
          have hn : (e :: l).filter (from_ lo) = [] := none_from fun x hx z => by
            have := rising_mem (lo := lo + 1) (hi := lo + (m + 1)) (l := e :: l) ⟨hlt, h.2⟩ x hx
            omega
          refine ⟨e :: l, by rw [hn]; rfl, hlt, by have := h.2.1; omega, ?_⟩
          have := h.2.2
          rw [show lo + (m + 1) = lo + 1 + m by omega] at this
          exact this
    obtain ⟨l2, e2, r2⟩ := key l h
    have ih := gather m (lo + 1) l2 r2
    have hf : ∀ p ∈ List.range' (lo + 1) m, l.filter (from_ p) = l2.filter (from_ p) := fun p hp => by
      have hp1 := (List.mem_range'_1.mp hp).1
      rw [e2, List.filter_append, List.filter_filter]
      have z : List.filter (fun a => from_ p a && from_ lo a) l = [] := List.filter_eq_nil_iff.mpr fun x _ => by
        simp only [from_, Bool.and_eq_true, decide_eq_true_eq, not_and]; omega
      rw [z]
      simp only [List.nil_append]
    rw [List.map_congr_left hf, ih, ← e2]
end Ka
end
section
set_option linter.all false
/-! What the program's layout makes of the lines of a tree. Plain Lean. -/
namespace Ka
open Tree
structure Lay where
  kinds : List Kd
  starts : List (Option Nat)
  ends : List (Option Nat)
  parents : List (Option Nat)
  depths : List Nat
  pts : List Nat
  begun : List (Nat × Nat)
  ended : List (Nat × Nat)
namespace Lay
def new : Lay := ⟨[.prog], [none], [none], [none], [0], [0], [], []⟩
def cur (L : Lay) : Nat := L.pts.getLast?.getD 0
def line (L : Lay) : Nat := L.pts.length - 1
/-- a scope is begun by this line within p -/
def begin_ (L : Lay) (k : Kd) (p : Nat) : Lay :=
  { L with kinds := L.kinds ++ [k], starts := L.starts ++ [some L.line], ends := L.ends ++ [none], parents := L.parents ++ [some p], depths := L.depths ++ [L.depths.getD p 0 + 1], begun := L.begun ++ [(L.line, L.kinds.length)] }
def end_ (L : Lay) : Lay := { L with ends := L.ends.set L.cur (some L.line), ended := L.ended ++ [(L.line, L.cur)] }
def up (L : Lay) : Nat := ((L.parents[L.cur]?).getD none).getD 0
def push (L : Lay) (s : Nat) : Lay := { L with pts := L.pts ++ [s] }
def take (L : Lay) : Stm → Lay
  | .pl _ => L.push L.cur
  | .block => (L.begin_ .block L.cur).push L.kinds.length
  | .iff => (L.begin_ .iff L.cur).push L.kinds.length
  | .whl => (L.begin_ .whl L.cur).push L.kinds.length
  | .els => (L.end_.begin_ .els L.up).push L.kinds.length
  | .fin => L.end_.push L.up
def run (L : Lay) (ss : List Stm) : Lay := ss.foldl take L
/-- behind the lines of T: s the innermost scope, d its depth -/
def after (L : Lay) (T : Tree) (s d : Nat) : Lay :=
  { kinds := L.kinds ++ T.kinds, starts := L.starts ++ (T.starts L.line).map some, ends := L.ends ++ (T.ends L.line).map some, parents := L.parents ++ (T.parents s L.kinds.length).map some,
    depths := L.depths ++ T.deps (d + 1), pts := L.pts ++ T.pts s L.kinds.length, begun := L.begun ++ T.begun L.line L.kinds.length, ended := L.ended ++ T.ended L.line L.kinds.length }
/-- s is the innermost scope, of depth d, and the rows are as long as each other -/
structure Ok (L : Lay) (s d : Nat) : Prop where
  ne : L.pts ≠ []
  cur : L.cur = s
  lt : s < L.kinds.length
  dep : L.depths[s]? = some d
  ls : L.starts.length = L.kinds.length
  le : L.ends.length = L.kinds.length
  lp : L.parents.length = L.kinds.length
  ld : L.depths.length = L.kinds.length
end Lay
open Lay
theorem run_append (L : Lay) (a b : List Stm) : L.run (a ++ b) = (L.run a).run b := List.foldl_append
theorem run_cons (L : Lay) (a : Stm) (b : List Stm) : L.run (a :: b) = (L.take a).run b := rfl
theorem line_snoc {L : Lay} (h : L.pts ≠ []) (s : Nat) : (L.push s).line = L.line + 1 := by
  show (L.pts ++ [s]).length - 1 = L.pts.length - 1 + 1
  have : 0 < L.pts.length := List.length_pos_iff.mpr h
  rw [List.length_append, List.length_singleton]; omega
theorem cur_push (L : Lay) (s : Nat) : (L.push s).cur = s := by
  show ((L.pts ++ [s]).getLast?).getD 0 = s
  simp
theorem last_pts (T : Tree) : ∀ s n, (s :: T.pts s n).getLast? = some s := by
  intro s n
  rw [pts_lsc]; simp
theorem cur_after {L : Lay} {T : Tree} {s d : Nat} (h : L.Ok s d) : (L.after T s d).cur = s := by
  show ((L.pts ++ T.pts s L.kinds.length).getLast?).getD 0 = s
  have e := last_pts T s L.kinds.length
  cases hp : T.pts s L.kinds.length with
  | nil => rw [List.append_nil]; exact h.cur
  | cons x r =>
    rw [hp, List.getLast?_cons_cons] at e
    rw [List.getLast?_append, e]; rfl
theorem line_after {L : Lay} {T : Tree} {s d : Nat} (h : L.pts ≠ []) : (L.after T s d).line = L.line + T.len := by
  show (L.pts ++ T.pts s L.kinds.length).length - 1 = L.pts.length - 1 + T.len
  have : 0 < L.pts.length := List.length_pos_iff.mpr h
  rw [List.length_append, pts_len]; omega
theorem Lay.Ok.after {L : Lay} {s d : Nat} (h : L.Ok s d) (T : Tree) : (L.after T s d).Ok s d where
  ne := by
    show L.pts ++ _ ≠ []
    intro z; exact h.ne (List.append_eq_nil_iff.mp z).1
  cur := cur_after h
  lt := by show s < (L.kinds ++ T.kinds).length; rw [List.length_append]; have := h.lt; omega
  dep := by show (L.depths ++ _)[s]? = _; rw [List.getElem?_append_left (by rw [h.ld]; exact h.lt)]; exact h.dep
  ls := by show (L.starts ++ _).length = (L.kinds ++ T.kinds).length; simp [h.ls, starts_len, kinds_len]
  le := by show (L.ends ++ _).length = (L.kinds ++ T.kinds).length; simp [h.le, ends_len, kinds_len]
  lp := by show (L.parents ++ _).length = (L.kinds ++ T.kinds).length; simp [h.lp, parents_len, kinds_len]
  ld := by show (L.depths ++ _).length = (L.kinds ++ T.kinds).length; simp [h.ld, deps_len, kinds_len]
theorem Lay.ext' {L M : Lay} (h1 : L.kinds = M.kinds) (h2 : L.starts = M.starts) (h3 : L.ends = M.ends) (h4 : L.parents = M.parents) (h5 : L.depths = M.depths) (h6 : L.pts = M.pts) (h7 : L.begun = M.begun) (h8 : L.ended = M.ended) : L = M := by
  cases L; cases M; simp only at *; subst_vars; rfl
/-- a scope begun -/
theorem Lay.Ok.begun {L : Lay} {s d : Nat} (h : L.Ok s d) (k : Kd) {p e : Nat} (hp : p < L.kinds.length) (he : L.depths[p]? = some e) : ((L.begin_ k p).push L.kinds.length).Ok L.kinds.length (e + 1) where
  ne := by show L.pts ++ _ ≠ []; simp
  cur := cur_push _ _
  lt := by show _ < (L.kinds ++ [k]).length; simp
  dep := by
    show (L.depths ++ [L.depths.getD p 0 + 1])[L.kinds.length]? = _
    rw [List.getElem?_append_right (by rw [h.ld]; exact Nat.le_refl _), h.ld, Nat.sub_self, List.getD_eq_getElem?_getD, he]; rfl
  ls := by show (L.starts ++ _).length = (L.kinds ++ _).length; simp [h.ls]
  le := by show (L.ends ++ _).length = (L.kinds ++ _).length; simp [h.le]
  lp := by show (L.parents ++ _).length = (L.kinds ++ _).length; simp [h.lp]
  ld := by show (L.depths ++ _).length = (L.kinds ++ _).length; simp [h.ld]
theorem set_mid {α : Type} (a b : List α) (x y : α) : (a ++ x :: b).set a.length y = a ++ y :: b := by
  rw [List.set_append_right _ _ (Nat.le_refl _), Nat.sub_self]; rfl
theorem get_mid {α : Type} (a b : List α) (x : α) : (a ++ x :: b)[a.length]? = some x := by
  rw [List.getElem?_append_right (Nat.le_refl _), Nat.sub_self]; rfl
/-- a scope within p, its body b laid, and ended -/
def Lay.shut (L : Lay) (k : Kd) (p e : Nat) (b : Tree) : Lay :=
  { kinds := L.kinds ++ k :: b.kinds, starts := L.starts ++ some L.line :: (b.starts (L.line + 1)).map some, ends := L.ends ++ some (L.line + 1 + b.len) :: (b.ends (L.line + 1)).map some,
    parents := L.parents ++ some p :: (b.parents L.kinds.length (L.kinds.length + 1)).map some, depths := L.depths ++ (e + 1) :: b.deps (e + 1 + 1), pts := L.pts ++ L.kinds.length :: b.pts L.kinds.length (L.kinds.length + 1),
    begun := L.begun ++ (L.line, L.kinds.length) :: b.begun (L.line + 1) (L.kinds.length + 1), ended := L.ended ++ (b.ended (L.line + 1) (L.kinds.length + 1) ++ [(L.line + 1 + b.len, L.kinds.length)]) }
theorem shut_eq {L : Lay} {s d p e : Nat} (h : L.Ok s d) (k : Kd) (b : Tree) (hp : p < L.kinds.length) (he : L.depths[p]? = some e) :
    (((L.begin_ k p).push L.kinds.length).after b L.kinds.length (e + 1)).end_ = L.shut k p e b ∧ (((L.begin_ k p).push L.kinds.length).after b L.kinds.length (e + 1)).up = p := by
  have h1 := h.begun k hp he
  have h2 := h1.after b
  have l1 : ((L.begin_ k p).push L.kinds.length).line = L.line + 1 := line_snoc (L := L.begin_ k p) h.ne _
  have k1 : ((L.begin_ k p).push L.kinds.length).kinds.length = L.kinds.length + 1 := by show (L.kinds ++ [k]).length = _; simp
  have hd : L.depths.getD p 0 = e := by rw [List.getD_eq_getElem?_getD, he]; rfl
  have lM := line_after (T := b) (s := L.kinds.length) (d := e + 1) h1.ne
  rw [l1] at lM
  have cM := h2.cur
  refine ⟨?_, ?_⟩
  · apply Lay.ext'
    · show (L.kinds ++ [k]) ++ b.kinds = L.kinds ++ k :: b.kinds
      simp
    · show (L.starts ++ [some L.line]) ++ (b.starts _).map some = L.starts ++ some L.line :: (b.starts (L.line + 1)).map some
      rw [l1]; simp
    · show (((L.ends ++ [none]) ++ (b.ends _).map some)).set (Lay.cur _) (some (Lay.line _)) = L.ends ++ some (L.line + 1 + b.len) :: (b.ends (L.line + 1)).map some
      rw [cM, lM, l1, List.append_assoc, List.singleton_append, ← h.le, set_mid]
    · show (L.parents ++ [some p]) ++ (b.parents _ _).map some = L.parents ++ some p :: (b.parents L.kinds.length (L.kinds.length + 1)).map some
      rw [k1]; simp
    · show (L.depths ++ [L.depths.getD p 0 + 1]) ++ _ = L.depths ++ (e + 1) :: b.deps (e + 1 + 1)
      rw [hd]; simp
    · show (L.pts ++ [L.kinds.length]) ++ b.pts _ _ = L.pts ++ L.kinds.length :: b.pts L.kinds.length (L.kinds.length + 1)
      rw [k1]; simp
    · show (L.begun ++ [(L.line, L.kinds.length)]) ++ b.begun _ _ = L.begun ++ (L.line, L.kinds.length) :: b.begun (L.line + 1) (L.kinds.length + 1)
      rw [k1, l1]; simp
    · show (L.ended ++ b.ended _ _) ++ [(Lay.line _, Lay.cur _)] = L.ended ++ (b.ended (L.line + 1) (L.kinds.length + 1) ++ [(L.line + 1 + b.len, L.kinds.length)])
      rw [k1, l1, cM, lM]; simp
  · show ((((L.parents ++ [some p]) ++ (b.parents _ _).map some)[Lay.cur _]?).getD none).getD 0 = p
    rw [cM, List.append_assoc, List.singleton_append, ← h.lp, get_mid]; rfl
theorem Lay.shut_len (L : Lay) (k : Kd) (p e : Nat) (b : Tree) : (L.shut k p e b).kinds.length = L.kinds.length + 1 + b.nsc := by
  show (L.kinds ++ k :: b.kinds).length = _
  rw [List.length_append, List.length_cons, kinds_len]; omega
theorem Lay.shut_line {L : Lay} (k : Kd) (p e : Nat) (b : Tree) (h : L.pts ≠ []) : (L.shut k p e b).line = L.line + 1 + b.len := by
  show (L.pts ++ L.kinds.length :: b.pts _ _).length - 1 = L.pts.length - 1 + 1 + b.len
  have : 0 < L.pts.length := List.length_pos_iff.mpr h
  rw [List.length_append, List.length_cons, pts_len]; omega
/-- what is long enough and holds p's depth -/
structure Lay.Rows (L : Lay) (p d : Nat) : Prop where
  ne : L.pts ≠ []
  lt : p < L.kinds.length
  dep : L.depths[p]? = some d
  ls : L.starts.length = L.kinds.length
  le : L.ends.length = L.kinds.length
  lp : L.parents.length = L.kinds.length
  ld : L.depths.length = L.kinds.length
theorem Lay.shut_rows {L : Lay} {p e : Nat} (h : L.Rows p e) (k : Kd) (b : Tree) : (L.shut k p e b).Rows p e where
  ne := by show L.pts ++ _ ≠ []; simp
  lt := by rw [Lay.shut_len]; have := h.lt; omega
  dep := by show (L.depths ++ _)[p]? = _; rw [List.getElem?_append_left (by rw [h.ld]; exact h.lt)]; exact h.dep
  ls := by show (L.starts ++ _).length = (L.kinds ++ _).length; simp [h.ls, starts_len, kinds_len]
  le := by show (L.ends ++ _).length = (L.kinds ++ _).length; simp [h.le, ends_len, kinds_len]
  lp := by show (L.parents ++ _).length = (L.kinds ++ _).length; simp [h.lp, parents_len, kinds_len]
  ld := by show (L.depths ++ _).length = (L.kinds ++ _).length; simp [h.ld, deps_len, kinds_len]
theorem Lay.Rows.push {L : Lay} {s d : Nat} (h : L.Rows s d) : (L.push s).Ok s d := ⟨by show L.pts ++ _ ≠ []; simp, cur_push _ _, h.lt, h.dep, h.ls, h.le, h.lp, h.ld⟩
theorem Lay.Ok.rows {L : Lay} {s d : Nat} (h : L.Ok s d) : L.Rows s d := ⟨h.ne, h.lt, h.dep, h.ls, h.le, h.lp, h.ld⟩
theorem Lay.Rows.any {L : Lay} {s d : Nat} (h : L.Rows s d) : ∃ s' d', L.Ok s' d' ∨ True := ⟨s, d, .inr trivial⟩
theorem run_tree (T : Tree) : ∀ (L : Lay) (s d : Nat), L.Ok s d → L.run T.flat = L.after T s d := by
  induction T with
  | nil =>
    intro L s d h
    show L = _
    apply Lay.ext' <;> simp [Lay.after, Tree.kinds, Tree.starts, Tree.ends, Tree.parents, Tree.deps, Tree.pts, Tree.begun, Tree.ended]
  | ln l r ih =>
    intro L s d h
    have hc := h.cur
    have h2 : (L.push s).Ok s d := h.rows.push
    show (L.push L.cur).run r.flat = _
    rw [hc, ih _ s d h2]
    have hl := line_snoc h.ne s
    apply Lay.ext' <;> simp only [Lay.after, Tree.kinds, Tree.starts, Tree.ends, Tree.parents, Tree.deps, Tree.pts, Tree.begun, Tree.ended, hl] <;> simp [Lay.push]
  | blk w b r ihb ihr =>
    intro L s d h
    have hc := h.cur
    have h1 := h.begun (kd w) (p := s) h.lt h.dep
    have e1 : L.take (st w) = (L.begin_ (kd w) s).push L.kinds.length := by cases w <;> (simp only [st, kd, if_true, if_false, Bool.false_eq_true, Lay.take, hc])
    show (L.take (st w)).run (b.flat ++ .fin :: r.flat) = _
    rw [e1, run_append, ihb _ _ _ h1, run_cons]
    obtain ⟨s1, s2⟩ := shut_eq h (kd w) b h.lt h.dep
    show ((Lay.end_ _).push (Lay.up _)).run r.flat = _
    rw [s1, s2]
    have h3 : ((L.shut (kd w) s d b).push s).Ok s d := (Lay.shut_rows h.rows _ _).push
    rw [ihr _ s d h3]
    have l3 : ((L.shut (kd w) s d b).push s).line = L.line + 2 + b.len := by rw [line_snoc (L := L.shut (kd w) s d b) (Lay.shut_rows h.rows _ _).ne, Lay.shut_line _ _ _ _ h.ne]; omega
    have kk : ((L.shut (kd w) s d b).push s).kinds.length = L.kinds.length + 1 + b.nsc := L.shut_len (kd w) s d b
    apply Lay.ext' <;> simp only [Lay.after, Tree.kinds, Tree.starts, Tree.ends, Tree.parents, Tree.deps, Tree.pts, Tree.begun, Tree.ended, l3, kk] <;> simp [Lay.push, Lay.shut]
  | br a b r iha ihb ihr =>
    intro L s d h
    have hc := h.cur
    have h1 := h.begun .iff (p := s) h.lt h.dep
    show (L.take .iff).run (a.flat ++ .els :: (b.flat ++ .fin :: r.flat)) = _
    have e1 : L.take .iff = (L.begin_ .iff s).push L.kinds.length := by simp only [Lay.take, hc]
    rw [e1, run_append, iha _ _ _ h1, run_cons]
    obtain ⟨s1, s2⟩ := shut_eq h .iff a h.lt h.dep
    show (((Lay.end_ _).begin_ .els (Lay.up _)).push (Lay.kinds _).length).run (b.flat ++ .fin :: r.flat) = _
    have kE : (((L.begin_ .iff s).push L.kinds.length).after a L.kinds.length (d + 1)).kinds = (((L.begin_ .iff s).push L.kinds.length).after a L.kinds.length (d + 1)).end_.kinds := rfl
    rw [kE, s1, s2]
    -- the first part is shut; its rows serve, its innermost scope does not matter
    have R1 := Lay.shut_rows h.rows .iff a
    have hA : ∃ s' d', (L.shut .iff s d a).Ok s' d' := by
      have h2 := h1.after a
      have e : (L.shut .iff s d a).pts = (((L.begin_ .iff s).push L.kinds.length).after a L.kinds.length (d + 1)).pts := by rw [← s1]; rfl
      refine ⟨L.kinds.length, d + 1, ⟨R1.ne, ?_, ?_, ?_, R1.ls, R1.le, R1.lp, R1.ld⟩⟩
      · have := h2.cur
        unfold Lay.cur at this ⊢
        rw [e]; exact this
      · rw [Lay.shut_len]; omega
      · show (L.depths ++ (d + 1) :: _)[L.kinds.length]? = _
        rw [← h.ld, get_mid]
    obtain ⟨s', d', hA⟩ := hA
    have h4 := hA.begun .els (p := s) R1.lt R1.dep
    rw [run_append, ihb _ _ _ h4, run_cons]
    obtain ⟨t1, t2⟩ := shut_eq hA .els b R1.lt R1.dep
    show ((Lay.end_ _).push (Lay.up _)).run r.flat = _
    rw [t1, t2]
    have R2 := Lay.shut_rows R1 .els b
    rw [ihr _ s d R2.push]
    have kA := L.shut_len .iff s d a
    have lA := Lay.shut_line .iff s d a h.ne
    have kB := (L.shut .iff s d a).shut_len .els s d b
    have lB := Lay.shut_line .els s d b R1.ne
    have l3 : (((L.shut .iff s d a).shut .els s d b).push s).line = L.line + 3 + a.len + b.len := by rw [line_snoc R2.ne, lB, lA]; omega
    have kk : (((L.shut .iff s d a).shut .els s d b).push s).kinds.length = L.kinds.length + 2 + a.nsc + b.nsc := by show ((L.shut .iff s d a).shut .els s d b).kinds.length = _; rw [kB, kA]; omega
    have z1 : L.line + 1 + a.len + 1 = L.line + 2 + a.len := by omega
    have z2 : L.line + 1 + a.len + 1 + b.len = L.line + 2 + a.len + b.len := by omega
    have z3 : L.kinds.length + 1 + a.nsc + 1 = L.kinds.length + 2 + a.nsc := by omega
    apply Lay.ext'
    · simp only [Lay.after, Tree.kinds]; simp [Lay.push, Lay.shut]
    · simp only [Lay.after, Tree.starts, l3]; simp only [Lay.push]; unfold Lay.shut; simp only [show Lay.line ⟨_, _, _, _, _, _, _, _⟩ = _ from lA, z1]; simp
    · simp only [Lay.after, Tree.ends, l3]; simp only [Lay.push]; unfold Lay.shut; simp only [show Lay.line ⟨_, _, _, _, _, _, _, _⟩ = _ from lA, z1, z2]; simp
    · simp only [Lay.after, Tree.parents, kk]; simp only [Lay.push]; rw [Lay.shut]; simp only [kA, z3]; simp [Lay.shut]
    · simp only [Lay.after, Tree.deps]; simp [Lay.push, Lay.shut]
    · simp only [Lay.after, Tree.pts, kk]; simp only [Lay.push]; rw [Lay.shut]; simp only [kA, z3]; simp [Lay.shut]
    · simp only [Lay.after, Tree.begun, l3, kk]; simp only [Lay.push]; rw [Lay.shut]; simp only [kA, lA, z1, z3]; simp [Lay.shut]
    · simp only [Lay.after, Tree.ended, l3, kk]; simp only [Lay.push]; rw [Lay.shut]; simp only [kA, lA, z1, z2, z3]; simp [Lay.shut]
end Ka
end
section
set_option linter.all false
/-! The edges that the layout gives line by line; the scopes around a scope. Plain Lean. -/
namespace Ka
open Tree Lay
/-- what the final layout F must tell of a line, and the edges from it -/
def Good (F : Lay) (k : Nat) : Stm → List Edge → Prop
  | .pl l, es => es = [⟨k, .line l, k + 1⟩]
  | .block, es => ∃ n, F.begun.lookup k = some n ∧ es = [⟨k, .enter n, k + 1⟩]
  | .whl, es => ∃ n t, F.begun.lookup k = some n ∧ F.ends[n]? = some (some t) ∧ es = [⟨k, .enter n, k + 1⟩, ⟨k, .pass, t + 1⟩]
  | .iff, es => ∃ n t m, F.begun.lookup k = some n ∧ F.ends[n]? = some (some t) ∧ F.begun.lookup t = some m ∧ es = [⟨k, .enter n, k + 1⟩, ⟨k, .enter m, t + 1⟩]
  | .els, es => ∃ n m t, F.ended.lookup k = some n ∧ F.begun.lookup k = some m ∧ F.ends[m]? = some (some t) ∧ es = [⟨k, .leave n, t + 1⟩]
  | .fin, es => ∃ n q, F.ended.lookup k = some n ∧ F.kinds[n]? = some q ∧ ((q = .whl ∧ ∃ t, F.starts[n]? = some (some t) ∧ es = [⟨k, .leave n, t⟩]) ∨ (q ≠ .whl ∧ es = [⟨k, .leave n, k + 1⟩]))
inductive Lines (F : Lay) : Nat → List Stm → List Edge → Prop where
  | nil {k : Nat} : Lines F k [] []
  | cons {k : Nat} {s : Stm} {ss : List Stm} {es fs : List Edge} : Good F k s es → Lines F (k + 1) ss fs → Lines F k (s :: ss) (es ++ fs)
theorem Lines.append {F : Lay} : ∀ {a b : List Stm} {k : Nat} {e f : List Edge}, Lines F k a e → Lines F (k + a.length) b f → Lines F k (a ++ b) (e ++ f)
  | [], b, k, e, f, h, g => by cases h; exact g
  | s :: a, b, k, e, f, h, g => by
    cases h with
    | cons h1 h2 =>
      rw [List.append_assoc]
      refine .cons h1 (Lines.append h2 ?_)
      rw [List.length_cons, show k + (a.length + 1) = k + 1 + a.length by omega] at g
      exact g
structure Fits (F : Lay) (T : Tree) (k n : Nat) : Prop where
  b : ∀ p ∈ T.begun k n, F.begun.lookup p.1 = some p.2
  e : ∀ p ∈ T.ended k n, F.ended.lookup p.1 = some p.2
  en : ∀ i x, (T.ends k)[i]? = some x → F.ends[n + i]? = some (some x)
  st : ∀ i x, (T.starts k)[i]? = some x → F.starts[n + i]? = some (some x)
  kd : ∀ i x, T.kinds[i]? = some x → F.kinds[n + i]? = some x
theorem split_at {α β : Type} {P : Nat → α → Prop} {a b : List α} {n : Nat} (h : ∀ i x, (a ++ b)[i]? = some x → P (n + i) x) : (∀ i x, a[i]? = some x → P (n + i) x) ∧ ∀ i x, b[i]? = some x → P (n + a.length + i) x := by
  refine ⟨fun i x e => ?_, fun i x e => ?_⟩
  · obtain ⟨hi, _⟩ := List.getElem?_eq_some_iff.mp e
    exact h i x (by rw [List.getElem?_append_left hi]; exact e)
  · rw [Nat.add_assoc]
    exact h (a.length + i) x (by rw [List.getElem?_append_right (Nat.le_add_right _ _), Nat.add_sub_cancel_left]; exact e)
theorem split_cons {α : Type} {P : Nat → α → Prop} {a : α} {b : List α} {n : Nat} (h : ∀ i x, (a :: b)[i]? = some x → P (n + i) x) : P n a ∧ ∀ i x, b[i]? = some x → P (n + 1 + i) x := by
  refine ⟨h 0 a rfl, fun i x e => ?_⟩
  have q := h (i + 1) x e
  rw [show n + (i + 1) = n + 1 + i by omega] at q
  exact q
theorem Fits.ln {F : Lay} {l : Ln} {r : Tree} {k n : Nat} (h : Fits F (.ln l r) k n) : Fits F r (k + 1) n := ⟨h.b, h.e, h.en, h.st, h.kd⟩
theorem Fits.blk {F : Lay} {w : Bool} {b r : Tree} {k n : Nat} (h : Fits F (.blk w b r) k n) : Fits F b (k + 1) (n + 1) ∧ Fits F r (k + 2 + b.len) (n + 1 + b.nsc) ∧
    F.begun.lookup k = some n ∧ F.ended.lookup (k + 1 + b.len) = some n ∧ F.ends[n]? = some (some (k + 1 + b.len)) ∧ F.starts[n]? = some (some k) ∧ F.kinds[n]? = some (Tree.kd w) := by
  obtain ⟨hb, he, hen, hst, hkd⟩ := h
  simp only [Tree.begun, Tree.ended, List.mem_cons, List.mem_append, Tree.ends, Tree.starts, Tree.kinds] at hb he hen hst hkd
  obtain ⟨en0, en1⟩ := split_cons (P := fun i x => F.ends[i]? = some (some x)) hen
  obtain ⟨en1, en2⟩ := split_at (β := Unit) (P := fun i x => F.ends[i]? = some (some x)) en1
  obtain ⟨st0, st1⟩ := split_cons (P := fun i x => F.starts[i]? = some (some x)) hst
  obtain ⟨st1, st2⟩ := split_at (β := Unit) (P := fun i x => F.starts[i]? = some (some x)) st1
  obtain ⟨kd0, kd1⟩ := split_cons (P := fun i x => F.kinds[i]? = some x) hkd
  obtain ⟨kd1, kd2⟩ := split_at (β := Unit) (P := fun i x => F.kinds[i]? = some x) kd1
  rw [ends_len] at en2
  rw [starts_len] at st2
  rw [kinds_len] at kd2
  exact ⟨⟨fun p hp => hb p (.inr (.inl hp)), fun p hp => he p (.inl hp), en1, st1, kd1⟩, ⟨fun p hp => hb p (.inr (.inr hp)), fun p hp => he p (.inr (.inr hp)), en2, st2, kd2⟩, hb _ (.inl rfl), he _ (.inr (.inl rfl)), en0, st0, kd0⟩
theorem Fits.br {F : Lay} {a b r : Tree} {k n : Nat} (h : Fits F (.br a b r) k n) : Fits F a (k + 1) (n + 1) ∧ Fits F b (k + 2 + a.len) (n + 2 + a.nsc) ∧ Fits F r (k + 3 + a.len + b.len) (n + 2 + a.nsc + b.nsc) ∧
    F.begun.lookup k = some n ∧ F.ended.lookup (k + 1 + a.len) = some n ∧ F.ends[n]? = some (some (k + 1 + a.len)) ∧
    F.begun.lookup (k + 1 + a.len) = some (n + 1 + a.nsc) ∧ F.ended.lookup (k + 2 + a.len + b.len) = some (n + 1 + a.nsc) ∧ F.ends[n + 1 + a.nsc]? = some (some (k + 2 + a.len + b.len)) ∧ F.kinds[n + 1 + a.nsc]? = some .els := by
  obtain ⟨hb, he, hen, hst, hkd⟩ := h
  simp only [Tree.begun, Tree.ended, List.mem_cons, List.mem_append, Tree.ends, Tree.starts, Tree.kinds] at hb he hen hst hkd
  obtain ⟨en0, en1⟩ := split_cons (P := fun i x => F.ends[i]? = some (some x)) hen
  obtain ⟨en1, en2⟩ := split_at (β := Unit) (P := fun i x => F.ends[i]? = some (some x)) en1
  obtain ⟨en2, en3⟩ := split_cons (P := fun i x => F.ends[i]? = some (some x)) en2
  obtain ⟨en3, en4⟩ := split_at (β := Unit) (P := fun i x => F.ends[i]? = some (some x)) en3
  obtain ⟨st0, st1⟩ := split_cons (P := fun i x => F.starts[i]? = some (some x)) hst
  obtain ⟨st1, st2⟩ := split_at (β := Unit) (P := fun i x => F.starts[i]? = some (some x)) st1
  obtain ⟨st2, st3⟩ := split_cons (P := fun i x => F.starts[i]? = some (some x)) st2
  obtain ⟨st3, st4⟩ := split_at (β := Unit) (P := fun i x => F.starts[i]? = some (some x)) st3
  obtain ⟨kd0, kd1⟩ := split_cons (P := fun i x => F.kinds[i]? = some x) hkd
  obtain ⟨kd1, kd2⟩ := split_at (β := Unit) (P := fun i x => F.kinds[i]? = some x) kd1
  obtain ⟨kd2, kd3⟩ := split_cons (P := fun i x => F.kinds[i]? = some x) kd2
  obtain ⟨kd3, kd4⟩ := split_at (β := Unit) (P := fun i x => F.kinds[i]? = some x) kd3
  have z : n + 1 + a.nsc + 1 = n + 2 + a.nsc := by omega
  rw [ends_len] at en2 en3 en4
  rw [ends_len] at en4
  rw [starts_len] at st3 st4
  rw [starts_len] at st4
  rw [kinds_len] at kd2 kd3 kd4
  rw [kinds_len] at kd4
  rw [z] at en3 en4 st3 st4 kd3 kd4
  exact ⟨⟨fun p hp => hb p (.inr (.inl hp)), fun p hp => he p (.inl hp), en1, st1, kd1⟩, ⟨fun p hp => hb p (.inr (.inr (.inr (.inl hp)))), fun p hp => he p (.inr (.inr (.inl hp))), en3, st3, kd3⟩,
    ⟨fun p hp => hb p (.inr (.inr (.inr (.inr hp)))), fun p hp => he p (.inr (.inr (.inr (.inr hp)))), en4, st4, kd4⟩,
    hb _ (.inl rfl), he _ (.inr (.inl rfl)), en0, hb _ (.inr (.inr (.inl rfl))), he _ (.inr (.inr (.inr (.inl rfl)))), en2, kd2⟩
theorem lines_tree {F : Lay} (T : Tree) : ∀ k n, Fits F T k n → Lines F k T.flat (T.pE k n) := by
  induction T with
  | nil => intro k n _; exact .nil
  | ln l r ih => intro k n h; exact .cons (es := [_]) rfl (ih _ _ h.ln)
  | blk w b r ihb ihr =>
    intro k n h
    obtain ⟨hb, hr, b0, e0, en0, st0, kd0⟩ := h.blk
    have q1 := ihb _ _ hb
    have q2 := ihr _ _ hr
    have zr : k + 1 + b.len + 1 = k + 2 + b.len := by omega
    have hfin : Good F (k + 1 + b.len) .fin [⟨k + 1 + b.len, .leave n, if w = true then k else k + 2 + b.len⟩] := by
      refine ⟨n, _, e0, kd0, ?_⟩
      cases w
      · exact .inr ⟨(by intro z; cases z), by simp [zr]⟩
      · exact .inl ⟨rfl, k, st0, by simp⟩
    have q3 : Lines F (k + 1) (b.flat ++ .fin :: r.flat) (b.pE (k + 1) (n + 1) ++ ([⟨k + 1 + b.len, .leave n, if w = true then k else k + 2 + b.len⟩] ++ r.pE (k + 2 + b.len) (n + 1 + b.nsc))) := by
      refine Lines.append q1 ?_
      rw [flat_len]
      refine .cons hfin ?_
      rw [zr]; exact q2
    cases w
    · exact .cons (es := [_]) ⟨n, b0, rfl⟩ q3
    · have := Lines.cons (F := F) (s := .whl) (es := [⟨k, .enter n, k + 1⟩, ⟨k, .pass, k + 2 + b.len⟩]) ⟨n, _, b0, en0, by rw [zr]⟩ q3
      exact this
  | br a b r iha ihb ihr =>
    intro k n h
    obtain ⟨ha, hb, hr, b0, e0, en0, b1, e1, en1, kd1⟩ := h.br
    have q1 := iha _ _ ha
    have q2 := ihb _ _ hb
    have q3 := ihr _ _ hr
    have z1 : k + 1 + a.len + 1 = k + 2 + a.len := by omega
    have z2 : k + 2 + a.len + b.len + 1 = k + 3 + a.len + b.len := by omega
    have q4 : Lines F (k + 2 + a.len + b.len) (.fin :: r.flat) ([⟨k + 2 + a.len + b.len, .leave (n + 1 + a.nsc), k + 3 + a.len + b.len⟩] ++ r.pE (k + 3 + a.len + b.len) (n + 2 + a.nsc + b.nsc)) := by
      refine .cons ⟨_, _, e1, kd1, .inr ⟨(by intro z; cases z), by rw [z2]⟩⟩ ?_
      rw [z2]; exact q3
    have q5 : Lines F (k + 1 + a.len) (.els :: (b.flat ++ .fin :: r.flat)) ([⟨k + 1 + a.len, .leave n, k + 3 + a.len + b.len⟩] ++ (b.pE (k + 2 + a.len) (n + 2 + a.nsc) ++ ([⟨k + 2 + a.len + b.len, .leave (n + 1 + a.nsc), k + 3 + a.len + b.len⟩] ++ r.pE (k + 3 + a.len + b.len) (n + 2 + a.nsc + b.nsc)))) := by
      refine .cons ⟨_, _, _, e0, b1, en1, by rw [z2]⟩ ?_
      rw [z1]
      refine Lines.append q2 ?_
      rw [flat_len]; exact q4
    have q6 := Lines.append q1 (by rw [flat_len]; exact q5)
    exact .cons (s := .iff) (es := [⟨k, .enter n, k + 1⟩, ⟨k, .enter (n + 1 + a.nsc), k + 2 + a.len⟩]) ⟨n, _, _, b0, en0, b1, by rw [z1]⟩ q6
/-! ### the final layout fits -/
theorem begun_range (T : Tree) : ∀ k n p, p ∈ T.begun k n → k ≤ p.1 ∧ p.1 < k + T.len := by
  induction T with
  | nil => intro k n p h; cases h
  | ln l r ih => intro k n p h; simp only [Tree.begun, len] at h ⊢; have := ih _ _ _ h; omega
  | blk w b r ihb ihr =>
    intro k n p h
    simp only [Tree.begun, len, List.mem_cons, List.mem_append] at h ⊢
    rcases h with rfl | h | h
    · exact ⟨Nat.le_refl _, by show k < _; omega⟩
    · have := ihb _ _ _ h; omega
    · have := ihr _ _ _ h; omega
  | br a b r iha ihb ihr =>
    intro k n p h
    simp only [Tree.begun, len, List.mem_cons, List.mem_append] at h ⊢
    rcases h with rfl | h | rfl | h | h
    · exact ⟨Nat.le_refl _, by show k < _; omega⟩
    · have := iha _ _ _ h; omega
    · exact ⟨by show k ≤ k + 1 + _; omega, by show k + 1 + _ < _; omega⟩
    · have := ihb _ _ _ h; omega
    · have := ihr _ _ _ h; omega
theorem ended_range (T : Tree) : ∀ k n p, p ∈ T.ended k n → k ≤ p.1 ∧ p.1 < k + T.len := by
  induction T with
  | nil => intro k n p h; cases h
  | ln l r ih => intro k n p h; simp only [Tree.ended, len] at h ⊢; have := ih _ _ _ h; omega
  | blk w b r ihb ihr =>
    intro k n p h
    simp only [Tree.ended, len, List.mem_cons, List.mem_append] at h ⊢
    rcases h with h | rfl | h
    · have := ihb _ _ _ h; omega
    · exact ⟨by show k ≤ k + 1 + _; omega, by show k + 1 + _ < _; omega⟩
    · have := ihr _ _ _ h; omega
  | br a b r iha ihb ihr =>
    intro k n p h
    simp only [Tree.ended, len, List.mem_cons, List.mem_append] at h ⊢
    rcases h with h | rfl | h | rfl | h
    · have := iha _ _ _ h; omega
    · exact ⟨by show k ≤ k + 1 + _; omega, by show k + 1 + _ < _; omega⟩
    · have := ihb _ _ _ h; omega
    · exact ⟨by show k ≤ k + 2 + _ + _; omega, by show k + 2 + _ + _ < _; omega⟩
    · have := ihr _ _ _ h; omega
abbrev Asc (l : List (Nat × Nat)) : Prop := l.Pairwise fun p q => p.1 < q.1
theorem begun_asc (T : Tree) : ∀ k n, Asc (T.begun k n) := by
  induction T with
  | nil => intro k n; exact .nil
  | ln l r ih => intro k n; exact ih _ _
  | blk w b r ihb ihr =>
    intro k n
    simp only [Tree.begun]
    refine List.pairwise_cons.mpr ⟨fun p hp => ?_, List.pairwise_append.mpr ⟨ihb _ _, ihr _ _, fun p hp q hq => ?_⟩⟩
    · rcases List.mem_append.mp hp with h | h
      · have := begun_range b _ _ _ h; show k < _; omega
      · have := begun_range r _ _ _ h; show k < _; omega
    · have := begun_range b _ _ _ hp; have := begun_range r _ _ _ hq; omega
  | br a b r iha ihb ihr =>
    intro k n
    simp only [Tree.begun]
    refine List.pairwise_cons.mpr ⟨fun p hp => ?_, List.pairwise_append.mpr ⟨iha _ _, List.pairwise_cons.mpr ⟨fun p hp => ?_, List.pairwise_append.mpr ⟨ihb _ _, ihr _ _, fun p hp q hq => ?_⟩⟩, fun p hp q hq => ?_⟩⟩
    · rcases List.mem_append.mp hp with h | h
      · have := begun_range a _ _ _ h; show k < _; omega
      · rcases List.mem_cons.mp h with rfl | h
        · show k < k + 1 + _; omega
        · rcases List.mem_append.mp h with h | h
          · have := begun_range b _ _ _ h; show k < _; omega
          · have := begun_range r _ _ _ h; show k < _; omega
    · rcases List.mem_append.mp hp with h | h
      · have := begun_range b _ _ _ h; show k + 1 + a.len < _; omega
      · have := begun_range r _ _ _ h; show k + 1 + a.len < _; omega
    · have := begun_range b _ _ _ hp; have := begun_range r _ _ _ hq; omega
    · have h1 := begun_range a _ _ _ hp
      rcases List.mem_cons.mp hq with rfl | h
      · show p.1 < k + 1 + a.len; omega
      · rcases List.mem_append.mp h with h | h
        · have := begun_range b _ _ _ h; omega
        · have := begun_range r _ _ _ h; omega
theorem ended_asc (T : Tree) : ∀ k n, Asc (T.ended k n) := by
  induction T with
  | nil => intro k n; exact .nil
  | ln l r ih => intro k n; exact ih _ _
  | blk w b r ihb ihr =>
    intro k n
    simp only [Tree.ended]
    refine List.pairwise_append.mpr ⟨ihb _ _, List.pairwise_cons.mpr ⟨fun p hp => ?_, ihr _ _⟩, fun p hp q hq => ?_⟩
    · have := ended_range r _ _ _ hp; show k + 1 + b.len < _; omega
    · have h1 := ended_range b _ _ _ hp
      rcases List.mem_cons.mp hq with rfl | h
      · show p.1 < k + 1 + b.len; omega
      · have := ended_range r _ _ _ h; omega
  | br a b r iha ihb ihr =>
    intro k n
    simp only [Tree.ended]
    refine List.pairwise_append.mpr ⟨iha _ _, List.pairwise_cons.mpr ⟨fun p hp => ?_, List.pairwise_append.mpr ⟨ihb _ _, List.pairwise_cons.mpr ⟨fun p hp => ?_, ihr _ _⟩, fun p hp q hq => ?_⟩⟩, fun p hp q hq => ?_⟩
    · rcases List.mem_append.mp hp with h | h
      · have := ended_range b _ _ _ h; show k + 1 + a.len < _; omega
      · rcases List.mem_cons.mp h with rfl | h
        · show k + 1 + a.len < k + 2 + _ + _; omega
        · have := ended_range r _ _ _ h; show k + 1 + a.len < _; omega
    · have := ended_range r _ _ _ hp; show k + 2 + a.len + b.len < _; omega
    · have h1 := ended_range b _ _ _ hp
      rcases List.mem_cons.mp hq with rfl | h
      · show p.1 < k + 2 + a.len + b.len; omega
      · have := ended_range r _ _ _ h; omega
    · have h1 := ended_range a _ _ _ hp
      rcases List.mem_cons.mp hq with rfl | h
      · show p.1 < k + 1 + a.len; omega
      · rcases List.mem_append.mp h with h | h
        · have := ended_range b _ _ _ h; omega
        · rcases List.mem_cons.mp h with rfl | h
          · show p.1 < k + 2 + a.len + b.len; omega
          · have := ended_range r _ _ _ h; omega
theorem lookup_asc : ∀ {l : List (Nat × Nat)}, Asc l → ∀ p ∈ l, l.lookup p.1 = some p.2
  | (qa, qb) :: l, h, p, hp => by
    obtain ⟨h1, h2⟩ := List.pairwise_cons.mp h
    rcases List.mem_cons.mp hp with rfl | hp
    · simp [List.lookup]
    · have lt : qa < p.1 := h1 p hp
      have e : (p.1 == qa) = false := by rw [beq_eq_false_iff_ne]; omega
      simp only [List.lookup, e]
      exact lookup_asc h2 p hp
def fin_ (T : Tree) : Lay := Lay.new.after T 0 0
theorem new_ok : Lay.new.Ok 0 0 := ⟨by decide, rfl, by decide, rfl, rfl, rfl, rfl, rfl⟩
theorem run_fin (T : Tree) : Lay.new.run T.flat = fin_ T := run_tree T _ _ _ new_ok
theorem fits_fin (T : Tree) : Fits (fin_ T) T 0 1 where
  b := fun p hp => by show ([] ++ T.begun 0 1).lookup _ = _; exact lookup_asc (begun_asc T 0 1) p hp
  e := fun p hp => by show ([] ++ T.ended 0 1).lookup _ = _; exact lookup_asc (ended_asc T 0 1) p hp
  en := fun i x h => by
    show (none :: (T.ends 0).map some)[1 + i]? = _
    rw [Nat.add_comm, List.getElem?_cons_succ, List.getElem?_map, h]; rfl
  st := fun i x h => by
    show (none :: (T.starts 0).map some)[1 + i]? = _
    rw [Nat.add_comm, List.getElem?_cons_succ, List.getElem?_map, h]; rfl
  kd := fun i x h => by
    show (Kd.prog :: T.kinds)[1 + i]? = _
    rw [Nat.add_comm, List.getElem?_cons_succ, h]
theorem lines_fin (T : Tree) : Lines (fin_ T) 0 T.flat (T.pE 0 1) := lines_tree T 0 1 (fits_fin T)
/-! ### the scopes around a scope -/
structure Chain (P : List (Option Nat)) (D : List Nat) : Prop where
  len : P.length = D.length
  zero : P[0]? = some none
  zd : D[0]? = some 0
  up : ∀ i, 0 < i → i < P.length → ∃ p d, P[i]? = some (some p) ∧ p < i ∧ D[p]? = some d ∧ D[i]? = some (d + 1)
theorem Chain.snoc {P : List (Option Nat)} {D : List Nat} (h : Chain P D) {p d : Nat} (hp : D[p]? = some d) : Chain (P ++ [some p]) (D ++ [d + 1]) where
  len := by simp [h.len]
  zero := by
    have : 0 < P.length := by have := (List.getElem?_eq_some_iff.mp h.zero).1; exact this
    rw [List.getElem?_append_left this]; exact h.zero
  zd := by
    have : 0 < D.length := by have := (List.getElem?_eq_some_iff.mp h.zd).1; exact this
    rw [List.getElem?_append_left this]; exact h.zd
  up := fun i h0 hi => by
    have hpl : p < D.length := (List.getElem?_eq_some_iff.mp hp).1
    rw [List.length_append, List.length_singleton] at hi
    by_cases hlt : i < P.length
    · obtain ⟨q, e, h1, h2, h3, h4⟩ := h.up i h0 hlt
      exact ⟨q, e, by rw [List.getElem?_append_left hlt]; exact h1, h2, by rw [List.getElem?_append_left (by have := h.len; omega)]; exact h3, by rw [List.getElem?_append_left (by have := h.len; omega)]; exact h4⟩
    · have hi' : i = P.length := by omega
      subst hi'
      refine ⟨p, d, ?_, by rw [h.len]; exact hpl, by rw [List.getElem?_append_left hpl]; exact hp, ?_⟩
      · rw [List.getElem?_append_right (Nat.le_refl _), Nat.sub_self]; rfl
      · rw [h.len, List.getElem?_append_right (Nat.le_refl _), Nat.sub_self]; rfl
theorem chain_tree (T : Tree) : ∀ (P : List (Option Nat)) (D : List Nat) (s d n : Nat), Chain P D → D[s]? = some d → n = P.length → Chain (P ++ (T.parents s n).map some) (D ++ T.deps (d + 1)) := by
  induction T with
  | nil => intro P D s d n h _ _; simp [Tree.parents, Tree.deps]; exact h
  | ln l r ih => intro P D s d n h hd hn; exact ih P D s d n h hd hn
  | blk w b r ihb ihr =>
    intro P D s d n h hd hn
    have h1 := h.snoc hd
    have d1 : (D ++ [d + 1])[n]? = some (d + 1) := by rw [hn, h.len, List.getElem?_append_right (Nat.le_refl _), Nat.sub_self]; rfl
    have h2 := ihb _ _ n (d + 1) (n + 1) h1 d1 (by simp [hn])
    have hs : s < D.length := (List.getElem?_eq_some_iff.mp hd).1
    have h3 := ihr _ _ s d (n + 1 + b.nsc) h2 (by rw [List.append_assoc, List.getElem?_append_left hs]; exact hd) (by simp [hn, parents_len]; omega)
    simp only [Tree.parents, Tree.deps]
    simpa using h3
  | br a b r iha ihb ihr =>
    intro P D s d n h hd hn
    have hs : s < D.length := (List.getElem?_eq_some_iff.mp hd).1
    have h1 := h.snoc hd
    have d1 : (D ++ [d + 1])[n]? = some (d + 1) := by rw [hn, h.len, List.getElem?_append_right (Nat.le_refl _), Nat.sub_self]; rfl
    have h2 := iha _ _ n (d + 1) (n + 1) h1 d1 (by simp [hn])
    have hd2 : ((D ++ [d + 1]) ++ a.deps (d + 1 + 1))[s]? = some d := by rw [List.append_assoc, List.getElem?_append_left hs]; exact hd
    have h3 := h2.snoc hd2
    have l2 : n + 1 + a.nsc = ((D ++ [d + 1]) ++ a.deps (d + 1 + 1)).length := by rw [← h2.len]; simp [hn, parents_len]; omega
    have d3 : (((D ++ [d + 1]) ++ a.deps (d + 1 + 1)) ++ [d + 1])[n + 1 + a.nsc]? = some (d + 1) := by rw [l2, List.getElem?_append_right (Nat.le_refl _), Nat.sub_self]; rfl
    have h4 := ihb _ _ (n + 1 + a.nsc) (d + 1) (n + 2 + a.nsc) h3 d3 (by simp [hn, parents_len]; omega)
    have h5 := ihr _ _ s d (n + 2 + a.nsc + b.nsc) h4 (by rw [List.append_assoc, List.append_assoc, List.append_assoc, List.getElem?_append_left hs]; exact hd) (by simp [hn, parents_len]; omega)
    simp only [Tree.parents, Tree.deps]
    simpa using h5
theorem chain_fin (T : Tree) : Chain (fin_ T).parents (fin_ T).depths :=
  chain_tree T [none] [0] 0 0 1 ⟨rfl, rfl, rfl, fun i h0 hi => by simp at hi; omega⟩ rfl rfl
/-- s and what is around it, at most f + 1 of them -/
def around (P : List (Option Nat)) : Nat → Nat → List Nat
  | 0, s => [s]
  | f + 1, s => s :: (match (P[s]?).getD none with | some p => around P f p | none => [])
theorem around_all {P : List (Option Nat)} {D : List Nat} (h : Chain P D) : ∀ (d f s : Nat), D[s]? = some d → d ≤ f → (around P f s).length = d + 1 ∧ around P f s = around P d s
  | d, 0, s, hd, hf => by
    have : d = 0 := by omega
    subst this
    exact ⟨rfl, rfl⟩
  | d, f + 1, s, hd, hf => by
    by_cases h0 : s = 0
    · subst h0
      have e : d = 0 := by rw [h.zd] at hd; exact (Option.some.inj hd).symm
      subst e
      simp [around, h.zero]
    · obtain ⟨p, e, h1, h2, h3, h4⟩ := h.up s (by omega) (by rw [h.len]; exact (List.getElem?_eq_some_iff.mp hd).1)
      have ed : d = e + 1 := by rw [h4] at hd; exact (Option.some.inj hd).symm
      subst ed
      obtain ⟨a1, a2⟩ := around_all h e f p h3 (by omega)
      simp only [around, h1, Option.getD_some]
      exact ⟨by rw [List.length_cons, a1], by rw [a2]⟩
theorem deps_high (T : Tree) : ∀ d x, x ∈ T.deps d → x + 1 ≤ d + T.high := by
  induction T with
  | nil => intro d x h; cases h
  | ln l r ih => intro d x h; exact ih d x h
  | blk w b r ihb ihr =>
    intro d x h
    simp only [Tree.deps, high, List.mem_cons, List.mem_append] at h ⊢
    rcases h with rfl | h | h
    · omega
    · have := ihb _ _ h; omega
    · have := ihr _ _ h; omega
  | br a b r iha ihb ihr =>
    intro d x h
    simp only [Tree.deps, high, List.mem_cons, List.mem_append] at h ⊢
    rcases h with rfl | h | rfl | h | h
    · omega
    · have := iha _ _ h; omega
    · omega
    · have := ihb _ _ h; omega
    · have := ihr _ _ h; omega
end Ka
end
section
set_option Elab.async false
set_option linter.all false
set_option maxRecDepth 100000
namespace Kp
open PySem L2
def top (i : Nat) : Stmt := PySem.Challenge.pw_scopefree_k02_what_does_not_fit.main.body.getD i (.Pass ⟨0, 0, 0, 0⟩)
abbrev s_edges_of : Stmt := top 1
abbrev s_edges_from : Stmt := top 2
abbrev s_branch_edges : Stmt := top 3
abbrev s_end_edge : Stmt := top 4
abbrev s_followers_of : Stmt := top 5
abbrev s_Layout_init : Stmt := inClass (top 11) 0
abbrev s_Layout_innermost : Stmt := inClass (top 11) 1
abbrev s_Layout_misfit : Stmt := inClass (top 11) 2
abbrev s_Layout_take : Stmt := inClass (top 11) 3
abbrev s_Layout_begin : Stmt := inClass (top 11) 4
abbrev s_Layout_line_depth : Stmt := inClass (top 11) 5
abbrev s_lines_of : Stmt := top 16
abbrev s_statement_of : Stmt := top 17
abbrev s_assignment_of : Stmt := top 18
abbrev s_is_variable : Stmt := top 19
abbrev s_is_number : Stmt := top 20
abbrev s_variables_of : Stmt := top 21
abbrev s_BadProgram_init : Stmt := inClass (top 28) 0
abbrev s_Program_init : Stmt := inClass (top 29) 0
abbrev s_Program_text : Stmt := inClass (top 29) 1
abbrev s_Program_scopes_around : Stmt := inClass (top 29) 2
abbrev s_layout_of : Stmt := top 30
abbrev s_check_limits : Stmt := top 31
abbrev s_L_pool : Stmt := top 33
abbrev s_L_take : Stmt := top 34
abbrev s_L_spaced : Stmt := top 35
abbrev s_L_told : Stmt := top 36
abbrev s_L_is_integer : Stmt := top 37
abbrev s_L_same : Stmt := top 38
abbrev s_L_due : Stmt := top 39
abbrev s_L_deepest : Stmt := top 40
abbrev s_L_limits : Stmt := top 41
abbrev s_law : Stmt := top 42
/-- all that was tracked is as it was, but at ms -/
def But (ms : List Addr) (H H' : Hp) : Prop := ∀ b o, H b = some o → b ∉ ms → H' b = some o
theorem But.refl (ms : List Addr) (H : Hp) : But ms H H := fun _ _ h _ => h
theorem But.trans {ms : List Addr} {H H1 H2 : Hp} (a : But ms H H1) (b : But ms H1 H2) : But ms H H2 := fun c o h n => b c o (a c o h n) n
theorem But.mono {ms ns : List Addr} {H H' : Hp} (a : But ms H H') (h : ∀ b, b ∈ ms → b ∈ ns) : But ns H H' := fun c o e n => a c o e fun m => n (h c m)
theorem But.same {H H' : Hp} (a : Same H H') (ms : List Addr) : But ms H H' := fun c o e _ => a c o e
theorem But.nil {H H' : Hp} (a : But [] H H') : Same H H' := fun c o e => a c o e (by simp)
theorem But.upd {ms : List Addr} {H : Hp} {a : Addr} (h : a ∈ ms) (o : HO) : But ms H (upd H a o) := fun c u e n => by
  rw [upd_ne (fun z => n (by rw [z]; exact h))]; exact e
theorem But.new {ms : List Addr} {H : Hp} {a : Addr} (h : H a = none) (o : HO) : But ms H (L2.upd H a o) := fun c u e _ => by
  rw [upd_ne (ne_of_none e h)]; exact e
theorem same_new {H : Hp} {p : Addr} (h : H p = none) (o : HO) : Same H (upd H p o) := fun b u q => by rw [upd_ne (ne_of_none q h)]; exact q
theorem But.free {ms : List Addr} {H H' : Hp} (e : But ms H H') {l : Addr} (h : H' l = none) (n : l ∉ ms) : H l = none := by
  cases q : H l with
  | none => rfl
  | some o => rw [e l o q n] at h; cases h
/-- the tuples stand -/
def KeepT (K : PySem.W.Frag) (H H' : Hp) : Prop := ∀ b xs, SqT K H b xs → SqT K H' b xs
theorem KeepT.refl (K : PySem.W.Frag) (H : Hp) : KeepT K H H := fun _ _ h => h
theorem KeepT.trans {K : PySem.W.Frag} {H H1 H2 : Hp} (a : KeepT K H H1) (b : KeepT K H1 H2) : KeepT K H H2 := fun c xs h => b c xs (a c xs h)
def NotT : Option HO → Prop
  | some (.tup _) => False
  | some (.frz _ _) => False
  | _ => True
theorem But.keepT {K : PySem.W.Frag} {ms : List Addr} {H H' : Hp} (e : But ms H H') (h : ∀ m, m ∈ ms → NotT (H m)) : KeepT K H H' := fun b xs q => by
  rcases q with (q | ⟨o, q⟩) | q
  · exact .inl (.inl (e b _ q fun m => by have := h b m; rw [q] at this; exact this))
  · exact .inl (.inr ⟨o, e b _ q fun m => by have := h b m; rw [q] at this; exact this⟩)
  · exact .inr q
theorem Same.keepT {K : PySem.W.Frag} {H H' : Hp} (e : Same H H') : KeepT K H H' := (But.same e []).keepT fun m h => by cases h
/-- the built-in names stand -/
structure Bi (mg : Str → Option Value) : Prop where
  len : mg "len" = none
  int : mg "int" = none
  range : mg "range" = none
  tuple : mg "tuple" = none
  list : mg "list" = none
  enumerate : mg "enumerate" = none
  isinstance : mg "isinstance" = none
  str : mg "str" = none
  bool : mg "bool" = none
  sorted : mg "sorted" = none
  max : mg "max" = none
  all : mg "all" = none
  zip : mg "zip" = none
  min : mg "min" = none
  any : mg "any" = none
  set : mg "set" = none
/-! ### the pool: where the law draws from -/
/-- P is a pool -/
def Pool (H : Hp) (P C : Addr) : Prop := ∃ (ns : List Int) (i c z : Int), H P = some (.lst [.ref C, .int i, .int c, .int z]) ∧ H C = some (.lst (ns.map V.int)) ∧ 0 ≤ i ∧ 0 ≤ c ∧ 0 ≤ z ∧ z < 2147483647 ∧ ∀ n ∈ ns, 0 ≤ n
theorem Pool.notT {H : Hp} {P C : Addr} (h : Pool H P C) : NotT (H P) := by
  obtain ⟨ns, i, c, z, h, _⟩ := h
  rw [h]; trivial
/-- P is kept where its cells are kept -/
theorem Pool.but {H H' : Hp} {P C : Addr} {ms : List Addr} (h : Pool H P C) (e : But ms H H') (n : C ∉ ms) (hP : P ∉ ms) : Pool H' P C := by
  obtain ⟨ns, i, c, z, h1, h2, h3⟩ := h
  exact ⟨ns, i, c, z, e P _ h1 hP, e C _ h2 n, h3⟩
/-- a def of the text as it stands behind the top -/
structure Df (K : PySem.W.Frag) (mg : Str → Option Value) (x : Str) (st : Stmt) (ps : List Str) (f : Addr) (fd : FuncData) : Prop where
  F : Fun K x x st f fd
  b : Binds K fd ps []
  g : mg x = some (.ref f)
structure Dm (K : PySem.W.Frag) (C : Addr) (x qual : Str) (st : Stmt) (ps : List Str) (f : Addr) (fd : FuncData) : Prop where
  F : Fun K x qual st f fd
  b : Binds K fd ps []
  m : Meth K C x f
structure Di (K : PySem.W.Frag) (C : Addr) (qual : Str) (st : Stmt) (ps : List Str) (f : Addr) (fd : FuncData) : Prop where
  F : Fun K "__init__" qual st f fd
  b : Binds K fd ps []
  m : Mk K C f
/-- what the top has written -/
structure Tx (K : PySem.W.Frag) (w : World) (mg : Str → Option Value) where
  B : Bi mg
  f_edges_of : Addr
  d_edges_of : FuncData
  edges_of : Df K mg "edges_of" s_edges_of ["lines", "statements", "layout"] f_edges_of d_edges_of
  f_edges_from : Addr
  d_edges_from : FuncData
  edges_from : Df K mg "edges_from" s_edges_from ["at", "line", "word", "layout"] f_edges_from d_edges_from
  f_branch_edges : Addr
  d_branch_edges : FuncData
  branch_edges : Df K mg "branch_edges" s_branch_edges ["at", "layout"] f_branch_edges d_branch_edges
  f_end_edge : Addr
  d_end_edge : FuncData
  end_edge : Df K mg "end_edge" s_end_edge ["at", "layout"] f_end_edge d_end_edge
  f_followers_of : Addr
  d_followers_of : FuncData
  followers_of : Df K mg "followers_of" s_followers_of ["edges", "many"] f_followers_of d_followers_of
  f_lines_of : Addr
  d_lines_of : FuncData
  lines_of : Df K mg "lines_of" s_lines_of ["text"] f_lines_of d_lines_of
  f_statement_of : Addr
  d_statement_of : FuncData
  statement_of : Df K mg "statement_of" s_statement_of ["line"] f_statement_of d_statement_of
  f_assignment_of : Addr
  d_assignment_of : FuncData
  assignment_of : Df K mg "assignment_of" s_assignment_of ["name", "value"] f_assignment_of d_assignment_of
  f_is_variable : Addr
  d_is_variable : FuncData
  is_variable : Df K mg "is_variable" s_is_variable ["word"] f_is_variable d_is_variable
  f_is_number : Addr
  d_is_number : FuncData
  is_number : Df K mg "is_number" s_is_number ["word"] f_is_number d_is_number
  f_variables_of : Addr
  d_variables_of : FuncData
  variables_of : Df K mg "variables_of" s_variables_of ["statements"] f_variables_of d_variables_of
  f_layout_of : Addr
  d_layout_of : FuncData
  layout_of : Df K mg "layout_of" s_layout_of ["statements"] f_layout_of d_layout_of
  f_check_limits : Addr
  d_check_limits : FuncData
  check_limits : Df K mg "check_limits" s_check_limits ["lines", "depths", "variables"] f_check_limits d_check_limits
  f_L_pool : Addr
  d_L_pool : FuncData
  L_pool : Df K mg "_law_pool" s_L_pool ["script"] f_L_pool d_L_pool
  f_L_take : Addr
  d_L_take : FuncData
  L_take : Df K mg "_law_take" s_L_take ["pool", "many"] f_L_take d_L_take
  f_L_spaced : Addr
  d_L_spaced : FuncData
  L_spaced : Df K mg "_law_spaced" s_L_spaced ["pool", "lines"] f_L_spaced d_L_spaced
  f_L_told : Addr
  d_L_told : FuncData
  L_told : Df K mg "_law_told" s_L_told ["text"] f_L_told d_L_told
  f_L_is_integer : Addr
  d_L_is_integer : FuncData
  L_is_integer : Df K mg "_law_is_integer" s_L_is_integer ["actual"] f_L_is_integer d_L_is_integer
  f_L_same : Addr
  d_L_same : FuncData
  L_same : Df K mg "_law_same" s_L_same ["actual", "due"] f_L_same d_L_same
  f_L_due : Addr
  d_L_due : FuncData
  L_due : Df K mg "_law_due" s_L_due ["lines"] f_L_due d_L_due
  f_L_deepest : Addr
  d_L_deepest : FuncData
  L_deepest : Df K mg "_law_deepest" s_L_deepest ["lines"] f_L_deepest d_L_deepest
  f_L_limits : Addr
  d_L_limits : FuncData
  L_limits : Df K mg "_law_limits" s_L_limits ["pool"] f_L_limits d_L_limits
  C_ScopeError : Addr
  g_ScopeError : mg "ScopeError" = some (.ref C_ScopeError)
  C_TooLong : Addr
  g_TooLong : mg "TooLong" = some (.ref C_TooLong)
  x_TooLong : PySem.W.excIn K C_TooLong [.type "ValueError", .type "Exception", .type "BaseException", .type "object"] "ValueError.__new__" = true
  kp_TooLong : PySem.W.keepIn K (.ref C_TooLong) = true
  b_TooLong : PySem.W.subIn K (.ref C_TooLong) (.type "BaseException") = some true
  t_TooLong : PySem.W.typeIn K (.ref C_TooLong) = some (.type "type")
  ec_TooLong : ExcC K C_TooLong
  is_TooLong : PySem.W.kitOne K (.ref C_TooLong) (.ref C_ScopeError) = some true
  m_TooLong_TooLong : PySem.W.exmOne K (.ref C_TooLong) (.ref C_TooLong) = some true
  C_BadProgram : Addr
  g_BadProgram : mg "BadProgram" = some (.ref C_BadProgram)
  ox_BadProgram : OexC K C_BadProgram
  ec_BadProgram : ExcC K C_BadProgram
  xf_BadProgram : XfC K C_BadProgram
  b_BadProgram : PySem.W.subIn K (.ref C_BadProgram) (.type "BaseException") = some true
  t_BadProgram : PySem.W.typeIn K (.ref C_BadProgram) = some (.type "type")
  z_ValueError : mg "ValueError" = none
  m_TooLong_BadProgram : PySem.W.exmOne K (.ref C_TooLong) (.ref C_BadProgram) = some false
  na_BadProgram_line : PySem.W.findIn K (.ref C_BadProgram) "line" = some none
  na_BadProgram_reason : PySem.W.findIn K (.ref C_BadProgram) "reason" = some none
  m_BadProgram : PySem.W.exmOne K (.ref C_BadProgram) (.ref C_BadProgram) = some true
  is_BadProgram : PySem.W.kitOne K (.ref C_BadProgram) (.ref C_ScopeError) = some true
  iv_BadProgram : PySem.W.kitOne K (.ref C_BadProgram) (.type "ValueError") = some true
  f_BadProgram_init : Addr
  d_BadProgram_init : FuncData
  c_BadProgram_init : Addr
  cc_BadProgram : Addr
  su_BadProgram : Sup PySem.Challenge.pw_scopefree_k02_what_does_not_fit K mg C_BadProgram f_BadProgram_init d_BadProgram_init (nfB s_BadProgram_init "__init__" "BadProgram.__init__" cc_BadProgram c_BadProgram_init) cc_BadProgram
  i_BadProgram_init : PySem.W.findIn K (.ref C_BadProgram) "__init__" = some (some (.ref f_BadProgram_init))
  ti_BadProgram_init : PySem.W.typeIn K (.ref f_BadProgram_init) = some (.type "function")
  bi_BadProgram_init : Binds K d_BadProgram_init ["self", "line", "reason"] []
  C_Layout : Addr
  cl_Layout : Cls K C_Layout
  g_Layout : mg "Layout" = some (.ref C_Layout)
  n_Layout_kinds : NoAttr K C_Layout "kinds"
  n_Layout_starts : NoAttr K C_Layout "starts"
  n_Layout_ends : NoAttr K C_Layout "ends"
  n_Layout_parents : NoAttr K C_Layout "parents"
  n_Layout_depths : NoAttr K C_Layout "depths"
  n_Layout_point_scopes : NoAttr K C_Layout "point_scopes"
  n_Layout_begun : NoAttr K C_Layout "begun"
  n_Layout_ended : NoAttr K C_Layout "ended"
  f_Layout_init : Addr
  d_Layout_init : FuncData
  Layout_init : Di K C_Layout "Layout.__init__" s_Layout_init ["self"] f_Layout_init d_Layout_init
  f_Layout_innermost : Addr
  d_Layout_innermost : FuncData
  Layout_innermost : Dm K C_Layout "innermost" "Layout.innermost" s_Layout_innermost ["self"] f_Layout_innermost d_Layout_innermost
  f_Layout_misfit : Addr
  d_Layout_misfit : FuncData
  Layout_misfit : Dm K C_Layout "misfit" "Layout.misfit" s_Layout_misfit ["self", "word"] f_Layout_misfit d_Layout_misfit
  f_Layout_take : Addr
  d_Layout_take : FuncData
  Layout_take : Dm K C_Layout "take" "Layout.take" s_Layout_take ["self", "word"] f_Layout_take d_Layout_take
  f_Layout_begin : Addr
  d_Layout_begin : FuncData
  Layout_begin : Dm K C_Layout "begin" "Layout.begin" s_Layout_begin ["self", "word", "line", "parent"] f_Layout_begin d_Layout_begin
  f_Layout_line_depth : Addr
  d_Layout_line_depth : FuncData
  Layout_line_depth : Dm K C_Layout "line_depth" "Layout.line_depth" s_Layout_line_depth ["self", "line"] f_Layout_line_depth d_Layout_line_depth
  C_Program : Addr
  cl_Program : Cls K C_Program
  g_Program : mg "Program" = some (.ref C_Program)
  n_Program_lines : NoAttr K C_Program "lines"
  n_Program_statements : NoAttr K C_Program "statements"
  n_Program_variables : NoAttr K C_Program "variables"
  n_Program_line_depths : NoAttr K C_Program "line_depths"
  n_Program_parents : NoAttr K C_Program "parents"
  n_Program_scope_depths : NoAttr K C_Program "scope_depths"
  n_Program_loops : NoAttr K C_Program "loops"
  n_Program_point_scopes : NoAttr K C_Program "point_scopes"
  n_Program_depths : NoAttr K C_Program "depths"
  n_Program_edges : NoAttr K C_Program "edges"
  n_Program_followers : NoAttr K C_Program "followers"
  n_Program_sites : NoAttr K C_Program "sites"
  n_Program_site_scopes : NoAttr K C_Program "site_scopes"
  f_Program_init : Addr
  d_Program_init : FuncData
  Program_init : Di K C_Program "Program.__init__" s_Program_init ["self", "text"] f_Program_init d_Program_init
  f_Program_text : Addr
  d_Program_text : FuncData
  Program_text : Dm K C_Program "text" "Program.text" s_Program_text ["self"] f_Program_text d_Program_text
  f_Program_scopes_around : Addr
  d_Program_scopes_around : FuncData
  Program_scopes_around : Dm K C_Program "scopes_around" "Program.scopes_around" s_Program_scopes_around ["self", "number"] f_Program_scopes_around d_Program_scopes_around
  a_BEGINNERS : Addr
  k_BEGINNERS : mg "BEGINNERS" = some (.ref a_BEGINNERS)
  t_BEGINNERS : ∀ H : Hp, SqT K H a_BEGINNERS [.str "block", .str "if", .str "else", .str "while"]
  a_ENDERS : Addr
  k_ENDERS : mg "ENDERS" = some (.ref a_ENDERS)
  t_ENDERS : ∀ H : Hp, SqT K H a_ENDERS [.str "else", .str "end"]
  a_SCOPE_LINES : Addr
  e_SCOPE_LINES : Array DictEntry
  z_SCOPE_LINES : Nat
  k_SCOPE_LINES : mg "SCOPE_LINES" = some (.ref a_SCOPE_LINES)
  t_SCOPE_LINES : KDict K w a_SCOPE_LINES e_SCOPE_LINES z_SCOPE_LINES
  v0_SCOPE_LINES : ∃ a, PySem.W.nsIn K a_SCOPE_LINES "{" = some (some (.ref a)) ∧ ∀ H : Hp, SqT K H a [.str "block"]
  v1_SCOPE_LINES : ∃ a, PySem.W.nsIn K a_SCOPE_LINES "if ? {" = some (some (.ref a)) ∧ ∀ H : Hp, SqT K H a [.str "if"]
  v2_SCOPE_LINES : ∃ a, PySem.W.nsIn K a_SCOPE_LINES "} else {" = some (some (.ref a)) ∧ ∀ H : Hp, SqT K H a [.str "else"]
  v3_SCOPE_LINES : ∃ a, PySem.W.nsIn K a_SCOPE_LINES "while ? {" = some (some (.ref a)) ∧ ∀ H : Hp, SqT K H a [.str "while"]
  v4_SCOPE_LINES : ∃ a, PySem.W.nsIn K a_SCOPE_LINES "}" = some (some (.ref a)) ∧ ∀ H : Hp, SqT K H a [.str "end"]
  k_DIGITS : ∃ t, mg "DIGITS" = some (.str "0123456789" t)
  k_MOST_DIGITS : ∃ t, mg "MOST_DIGITS" = some (.int 3 t)
  k_MOST_CHARACTERS : ∃ t, mg "MOST_CHARACTERS" = some (.int 4000 t)
  k_MOST_LINES : ∃ t, mg "MOST_LINES" = some (.int 80 t)
  k_MOST_DEPTH : ∃ t, mg "MOST_DEPTH" = some (.int 5 t)
  k_MOST_VARIABLES : ∃ t, mg "MOST_VARIABLES" = some (.int 6 t)

section
variable {P : Program} {w : World} {K : PySem.W.Frag} {mg : Str → Option Value} {base : Heap}
def spPool (K : PySem.W.Frag) : Sp := fun vs H Q _ => ∃ (a : Addr) (ns : List Int), vs = [.ref a] ∧ SqL K H a (ns.map V.int) ∧ ns.length ≤ 63 ∧ ∀ (p C : Addr) (H' : Hp), Same H H' → H p = none → H C = none → Pool H' p C → Q (.ref p) H'
theorem sc_pool : FnScope ["script"] ["script"] (defScope s_L_pool) := ⟨rfl, rfl, rfl, by decide +kernel, rfl, by decide +kernel, by decide +kernel⟩
end
end Kp
end
section
set_option Elab.async false
set_option linter.all false
set_option maxRecDepth 100000
set_option maxHeartbeats 400000
namespace Kp
open PySem PySem.Spec PyProof.Rows L2
theorem all_str {P : Params} {ks : List Str} {es : List DictEntry} (h : es.map He.keyOf = He.keysIn P ks) : ∀ e ∈ es, ∃ k t, e.key = .str k t ∧ k ∈ ks := by
  intro e he
  have m : He.keyOf e ∈ He.keysIn P ks := by rw [← h]; exact List.mem_map.mpr ⟨e, he, rfl⟩
  obtain ⟨k, hk, q⟩ := List.mem_map.mp m
  obtain ⟨hh, key, val⟩ := e
  cases key with
  | str x t =>
    have q : some (k, PyData.keyHash P k) = some (x, hh) := q
    have e1 : k = x := congrArg Prod.fst (Option.some.inj q)
    exact ⟨x, t, rfl, by rw [← e1]; exact hk⟩
  | _ => exact absurd (show some (k, PyData.keyHash P k) = none from q) (by simp)
/-- a written dict holds no other key -/
theorem no_key {K : PySem.W.Frag} {a : Addr} {P : Params} {ks : List Str} {z : Str} (h : He.dicW K a = some (He.keysIn P ks)) (hz : z ∉ ks) : PySem.W.nsIn K a z = some none := by
  unfold He.dicW at h
  unfold PySem.W.nsIn
  cases q : K.lookup a with
  | none => rw [q] at h; cases h
  | some o =>
    obtain ⟨c, d, dt, sl⟩ := o
    rw [q] at h
    cases c with
    | type c =>
      cases d with
      | none =>
        cases dt with
        | dict es n =>
          have h : (match decide (c = "dict") && (sl.isEmpty && !a == sysModules) with | true => some (List.map He.keyOf es.toList) | false => none) = some (He.keysIn P ks) := h
          have e : es.toList.map He.keyOf = He.keysIn P ks := by
            cases b : decide (c = "dict") && (sl.isEmpty && !a == sysModules) with
            | true => rw [b] at h; exact Option.some.inj h
            | false => rw [b] at h; cases h
          have al := all_str e
          have f0 : es.toList.find? (fun e => e.key.isStr z) = none := List.find?_eq_none.mpr fun e he => by
            obtain ⟨k, t, ek, hk⟩ := al e he
            rw [ek]
            show ¬ ((k == z) = true)
            intro b
            exact hz (by rw [← eq_of_beq b]; exact hk)
          have r0 : es.toList.any (fun e => e.refKey) = false := List.any_eq_false.mpr fun e he => by
            obtain ⟨k, t, ek, hk⟩ := al e he
            unfold DictEntry.refKey
            rw [ek]; simp
          show (match es.toList.find? (fun e => e.key.isStr z) with | some e => some (some e.val) | none => if es.toList.any (fun e => e.refKey) = true then none else some none) = _
          rw [f0, r0]; rfl
        | _ => cases h
      | some d => cases dt <;> cases h
    | _ => cases d <;> cases dt <;> cases h
/-- a tuple of texts at an address -/
def tupA (K : PySem.W.Frag) (a : Addr) (vs : List V) : Bool := match K.lookup a with
  | some ⟨.type c, _, .seq its _, _⟩ => decide (c = "tuple") && (decide (its.size ≤ sizeLine) && He.relAll vs its.toList)
  | _ => false
theorem tupA_ok {K : PySem.W.Frag} {a : Addr} {vs : List V} (h : tupA K a vs = true) (H : Hp) : SqT K H a vs := by
  unfold tupA at h
  cases q : K.lookup a with
  | none => rw [q] at h; cases h
  | some o =>
    obtain ⟨c, d, dt, sl⟩ := o
    rw [q] at h
    cases c with
    | type c =>
      cases dt with
      | seq its n =>
        have h : (decide (c = "tuple") && (decide (its.size ≤ sizeLine) && He.relAll vs its.toList)) = true := h
        rw [Bool.and_eq_true, Bool.and_eq_true] at h
        exact .inr ⟨_, its, n, q, congrArg Value.type (of_decide_eq_true h.1), rfl, of_decide_eq_true h.2.1, He.relAll_ok h.2.2⟩
      | _ => cases h
    | _ => cases dt <;> cases h
/-- the dict at a leads from k to a tuple -/
def ledA (K : PySem.W.Frag) (a : Addr) (k : Str) (vs : List V) : Bool := match PySem.W.nsIn K a k with
  | some (some (.ref b)) => tupA K b vs
  | _ => false
theorem ledA_ok {K : PySem.W.Frag} {a : Addr} {k : Str} {vs : List V} (h : ledA K a k vs = true) : ∃ b, PySem.W.nsIn K a k = some (some (.ref b)) ∧ ∀ H : Hp, SqT K H b vs := by
  unfold ledA at h
  cases q : PySem.W.nsIn K a k with
  | none => rw [q] at h; cases h
  | some o =>
    rw [q] at h
    cases o with
    | none => cases h
    | some v =>
      cases v with
      | ref b => exact ⟨b, rfl, fun H => tupA_ok h H⟩
      | _ => cases h
end Kp
end
section
set_option Elab.async false
set_option linter.all false
set_option maxRecDepth 100000
set_option maxHeartbeats 4000000
namespace Kp
open PySem PySem.Spec PyProof.Rows L2 NdefX
/-! An own exception's __init__ that begins with super().__init__(..); the class stands over ValueError. -/
section
variable {prog : Program} {w : World} {A : Around} {E : Value → Shared → Prop} {h : Heap} {g : Array GenState} {d : Drawn} {t : Nat} {os : OsState}
variable {nm q : Str} {C N : Addr} {bs bm : List Value} {hdct : Bool} {sn : List Str} {sub : List Value} {ab : Bool} {col : Option Bool} {dd : Option Addr} {k0 k1 k2 k3 k5 : Option Value}
theorem call_mwVE {u e t0 : Addr} {rest : List Value} {Q : Value → Shared → Prop}
    (hC : h.get? C = some (excClassObj nm q C N bs bm hdct sn sub ab col dd k0 k1 k2 k3 k5 "ValueError.__new__")) (he : h.get? e = some (HandSPX.excO C t0)) (hu : h.get? u = some (PySem.W.kxs_mw "ValueError.__init__" e)) (hrest : rest.length ≤ sizeLine)
    (hq : ∀ h' t1, (∀ b o, b ≠ e → h.get? b = some o → h'.get? b = some o) → h'.get? e = some (HandSPX.excO C t1) → Q .none ⟨h', g, d, t, os⟩) :
    wpAny (model prog w) A (call (.ref u) rest) Q E ⟨h, g, d, t, os⟩ := by
  refine wpAny_call (codeAny_of_tree ?_)
  show wpAny _ A.in1 (callAny (.ref u) ⟨rest, []⟩) _ _ _
  simp only [callAny]
  refine wpAny_bind (wpAny_load hu ?_)
  simp only [PySem.W.kxs_mw, show (Value.type "method-wrapper" == Value.type "method" || Value.type "method-wrapper" == Value.type "builtin_function_or_method" || Value.type "method-wrapper" == Value.type "method-wrapper") = true by decide, if_true]
  refine PySem.W.KFB.if_so (by decide) ?_
  refine wpAny_bind (ESX.check_bound F.excBase_ValueError hC he rfl ?_)
  refine wpAny_bind (wpAny_pure (wpAny_pure ?_))
  refine ⟨Code.quiet_builtin _ (by decide +kernel), codeAny_builtin F.excBase_ValueError.initEntry ?_⟩
  rw [Around.under_plainId F.excBase_ValueError.init.plain _]
  wp_walk
  refine hq _ h.objs.size (fun b o hb ho => ?_) ?_
  · rw [Heap.get?_update_other _ _ (Ne.symm hb)]
    exact Heap.get?_push_of_some _ ho
  · rw [Heap.get?_update_self _ (Heap.get?_push_of_some _ he) rfl]
    rfl
end
section
variable {X : Cx} {C f cc a : Addr} {fd : FuncData} {F : NF} {pins : List (Addr × Obj)} {σ : L2.St} {H : Hp} {s : Shared}
theorem Inv.pinned {p : Addr × Obj} (I : Inv X pins σ H s) (h : s.heap.get? p.1 = some p.2 ∧ H p.1 = none ∧ p.1 ≠ X.env.locals ∧ p.1 ∉ X.fs ∧ ∀ v, p.2.data ≠ .cell v) : Inv X (p :: pins) σ H s :=
  ⟨I.ok, I.os, I.bare, I.base, I.loc, I.cell, I.free, I.freeC, (fun q hq => by
    rcases List.mem_append.mp hq with hq | hq
    · exact I.pin q (List.mem_append_left _ hq)
    · rcases List.mem_cons.mp hq with e | hq
      · rw [e]; exact h
      · exact I.pin q (List.mem_append_right _ hq)), I.hok, I.len⟩
theorem Inv.unpinned {p : Addr × Obj} (I : Inv X (p :: pins) σ H s) : Inv X pins σ H s :=
  ⟨I.ok, I.os, I.bare, I.base, I.loc, I.cell, I.free, I.freeC, (fun q hq => I.pin q (by
    rcases List.mem_append.mp hq with hq | hq
    · exact List.mem_append_left _ hq
    · exact List.mem_append_right _ (List.mem_cons_of_mem _ hq))), I.hok, I.len⟩
theorem wat_super {body : List Stmt} {p0 p1 p2 pos : Pos} {e : Expr} {es : List Expr} {ta : TA} {pl : Sem Bool} {i : Nat} {Q : VK} {ar : Arg} (S : Sup X.prog X.K X.mg C f fd F cc) (T : OexC X.K C)
    (hfu : X.env.func = some f) (hco : X.env.code = .ref F.c) (hks : X.env.kindOf "super" = some .globalImplicit) (hkc : X.env.kindOf "__class__" = some .free) (hcl : X.env.cells.lookup ("__class__" : Str) = some cc)
    (hp : (F.params.posonlyargs ++ F.params.args).head? = some ar) (hself : X.env.kindOf ar.arg = some .local) (hN : X.N[i]? = some ar.arg) (hi : σ[i]? = some (some (.ref a))) (ha : PA X (e :: es) ta)
    (I : Inv X pins σ H s) (h0 : H a = some (exo a C none)) (h : ta σ H fun vs H1 => vs.length ≤ 1000 ∧ H1 a = some (exo a C none) ∧ Q .non H1)
    (hc : eval (.Call (.Attribute (.Call (.Name "super" p0) [] [] p1) "__init__" p2) (e :: es) [] pos) X.env = (do
      let ov ← attributeBase (.Call (.Name "super" p0) [] [] p1) "__init__" X.env (eval (.Call (.Name "super" p0) [] [] p1) X.env)
      standAt p2.atName
      let (f, first) ← holding [ov] (getMethod ov "__init__" pl)
      callWith pos f first (backTo pos (starEach (e :: es) X.env)) []) := by rfl)
    (he : starEach (e :: es) X.env = (false, eval e X.env) :: starEach es X.env := by rfl) (hpl : (backTo pos (starEach es X.env)).any (·.1) = false := by rfl) :
    _root_.PySem.wpAt (model X.prog X.w) X.A (.func body X.env) (eval (.Call (.Attribute (.Call (.Name "super" p0) [] [] p1) "__init__" p2) (e :: es) [] pos) X.env) (EP X pins σ Q) X.xe s := by
  obtain ⟨oc, od, kV, doc, pm, ct, an, osl, efd, lf⟩ := S.ex
  obtain ⟨ccl, cdd, vs, ccs, fl, tf, lc, hv2, hfile⟩ := S.file
  obtain ⟨ca, cb, cz, lcc⟩ := S.cell
  obtain ⟨nm, q, N, bs, bm, sn, sub, ab, col, dd, k0, k1, k2, k3, k5, hC, hbm⟩ := T.cls
  obtain ⟨t1, ho⟩ := exo_at I.hok h0
  obtain ⟨m, hns, hl⟩ := I.loc
  obtain ⟨u0, ru, look⟩ := hl i ar.arg (.ref a) hN hi (.inl hself)
  have mself : m ar.arg = some (.ref a) := by
    rcases look with ⟨_, z⟩ | ⟨z, _⟩
    · rw [z]; exact congrArg some ru
    · rw [hself] at z
      rcases z with z | z <;> cases z
  obtain ⟨mb, g1, g2⟩ := I.mod.blt
  refine PySem.ks_wpAt_MethodCall (pl := pl) ?_ hc
  refine PySem.ks_wpAt_super_base hks hkc (by decide +kernel) hfu (I.kIn _ _ lf) rfl (ar := ar) (efd ▸ hp) hco (I.kIn _ _ lc) rfl hv2 hfile S.top ?_
  refine PySem.W.ks_loadName_global I.ok.kind hks (Calls.loadGlobal_builtin (by rw [I.ok.glob]; exact I.mod.glob.keeps I.bk) S.nog (by rw [I.ok.blt]; exact g1.keeps I.bk) ((g2 "super" (by decide)).trans (show bootBuiltins "super" = some (.type "super") by decide +kernel)) ⟨rfl, ?_⟩)
  refine wpAny_loadName_free I.ok.kind hkc hcl ⟨_, I.kIn _ _ lcc, rfl⟩ ?_
  refine wpAny_loadName_local I.ok.kind hself hns mself ?_
  obtain ⟨hh, gg, dr, tk, oss⟩ := s
  refine PySem.ks_wpAny_isType_cls (I.kIn _ _ hC) rfl ⟨rfl, ?_⟩
  refine PySem.ks_wpAny_call_super (I.kIn _ _ hC) rfl ho rfl (fun c z => by cases z) (PySem.W.looks_mroIn I.kIn S.sub) (fun h' e1 k => ?_)
  have I1 : Inv X pins σ H ⟨h', gg, dr, tk, oss⟩ := I.kept k
  have ho1 := k _ _ ho
  cases hcd : PySem.W.clsIn X.K C with
  | none => have z := S.init; unfold PySem.W.ks_superIn at z; rw [hcd] at z; cases z
  | some cd =>
    have hin := S.init
    unfold PySem.W.ks_superIn at hin
    rw [hcd] at hin
    have hI : PySem.W.Looks (model X.prog X.w) h' (isInstance (.ref a) (.type "ValueError")) true := (PySem.W.InstAt.type (od := none) ⟨ho1, rfl, rfl, trivial⟩).andThen (PySem.W.looks_subIn I1.kIn S.isV)
    have hne : a ≠ C := fun z => by
      have z2 := I1.kIn _ _ hC
      rw [← z, ho1] at z2
      cases z2
    refine PySem.W.kxs_getMethod PySem.W.kxs_ValueError e1 (PySem.W.looks_opaque I1.kIn S.st) (l₀ := cd.mro) (fun A Q E s k q => wpAny_bind ((PySem.W.looks_clsIn I1.kIn hcd) A _ E s k (wpAny_pure q))) rfl I1.kIn hin hI hne (by decide +kernel) ?_
    have sz : h'.objs.size ≤ h'.objs.size := Nat.le_refl _
    have I2 : Inv X pins σ H ⟨h'.push (PySem.W.kxs_mw "ValueError.__init__" a), gg, dr, tk + 1, oss⟩ := I1.kept fun b o e => Heap.get?_push_of_some _ e
    have I3 : Inv X ((h'.objs.size, PySem.W.kxs_mw "ValueError.__init__" a) :: pins) σ H ⟨h'.push (PySem.W.kxs_mw "ValueError.__init__" a), gg, dr, tk + 1, oss⟩ :=
      Inv.pinned I2 ⟨Heap.get?_push_size _ rfl, I1.hok.fresh sz, (fun z => absurd I1.lt (by rw [← (show h'.objs.size = X.env.locals from z)]; exact Nat.lt_irrefl _)), I1.nofs sz, fun v z => by cases z⟩
    refine PySem.W.kxs_callWith (i := "ValueError.__init__") (x := a) (by rw [he]; show (false || (backTo pos (starEach es X.env)).any (·.1)) = false; rw [hpl]; rfl) ?_
    rw [he]
    refine PySem.Calls.evalArgs_plain ?_
    have hrun := ha.run pos _ _ σ H _ I3 h
    rw [he] at hrun
    refine thn hrun fun us s1 ⟨ws, H1, J, r, wl, h1, q1⟩ => ?_
    -- (ha.run pos _ _ σ H _ I3 h) fun us s1 ⟨ws, H1, J, r, wl, h1, q1⟩ => ?_
    have pu := (J.pin (h'.objs.size, PySem.W.kxs_mw "ValueError.__init__" a) (List.mem_append_right _ List.mem_cons_self)).1
    refine ⟨pu, ?_⟩
    obtain ⟨t2, ho2⟩ := exo_at J.hok h1
    obtain ⟨h2, gg2, dr2, tk2, oss2⟩ := s1
    refine call_mwVE (J.kIn _ _ hC) ho2 pu (by show us.length ≤ sizeLine; rw [← r.length, sizeLine_eq]; omega) fun h3 t3 k3 hx => ?_
    have J2 := J.write (t' := tk2) (x := a) (e := a) (o := exo a C none) (by rw [h1]; exact True.intro) (.inl rfl) k3 ⟨_, hx⟩ (exo_ok hx)
    have eu : upd H1 a (exo a C none) = H1 := by
      funext b
      by_cases hb : b = a
      · rw [hb, upd_same, h1]
      · rw [upd_ne hb]
    rw [eu] at J2
    exact ⟨.non, H1, Inv.unpinned J2, rfl, q1⟩
/-- the statement, and what stands behind it -/
theorem wat_body {st : Stmt} {rest body : List Stmt} {p0 p1 p2 pos pos' : Pos} {e : Expr} {es : List Expr} {ta : TA} {tr : TS} {pl : Sem Bool} {i : Nat} {D : Ends} {ar : Arg} (S : Sup X.prog X.K X.mg C f fd F cc) (T : OexC X.K C)
    (hfu : X.env.func = some f) (hco : X.env.code = .ref F.c) (hks : X.env.kindOf "super" = some .globalImplicit) (hkc : X.env.kindOf "__class__" = some .free) (hcl : X.env.cells.lookup ("__class__" : Str) = some cc)
    (hp : (F.params.posonlyargs ++ F.params.args).head? = some ar) (hself : X.env.kindOf ar.arg = some .local) (hN : X.N[i]? = some ar.arg) (hi : σ[i]? = some (some (.ref a))) (ha : PA X (e :: es) ta) (hr : PSs X rest tr)
    (I : Inv X pins σ H s) (h0 : H a = some (exo a C none)) (h : ta σ H fun vs H1 => vs.length ≤ 1000 ∧ H1 a = some (exo a C none) ∧ tr D σ H1)
    (est : st = .Expr (.Call (.Attribute (.Call (.Name "super" p0) [] [] p1) "__init__" p2) (e :: es) [] pos) pos')
    (hc : eval (.Call (.Attribute (.Call (.Name "super" p0) [] [] p1) "__init__" p2) (e :: es) [] pos) X.env = (do
      let ov ← attributeBase (.Call (.Name "super" p0) [] [] p1) "__init__" X.env (eval (.Call (.Name "super" p0) [] [] p1) X.env)
      standAt p2.atName
      let (f, first) ← holding [ov] (getMethod ov "__init__" pl)
      callWith pos f first (backTo pos (starEach (e :: es) X.env)) []) := by rfl)
    (he : starEach (e :: es) X.env = (false, eval e X.env) :: starEach es X.env := by rfl) (hpl : (backTo pos (starEach es X.env)).any (·.1) = false := by rfl)
    (hint : interactive X.env = false := by rfl) (hs : swapsWith (.Call (.Attribute (.Call (.Name "super" p0) [] [] p1) "__init__" p2) (e :: es) [] pos) none pos'.line X.env = pure false := by rfl) :
    _root_.PySem.wpAt (model X.prog X.w) X.A (.func body X.env) (execs (st :: rest) X.env) (SP X pins D) X.xe s := by
  subst est
  refine PySem.ks_wpAt_execs_cons (PySem.ks_wpAt_Expr_any ?_ hint hs)
  refine PySem.wpAt_mono (wat_super (Q := fun _ H1 => tr D σ H1) S T hfu hco hks hkc hcl hp hself hN hi ha I h0 h hc he hpl) (fun v s1 ⟨_, H1, J, _, q⟩ => ?_) fun _ _ x => x
  exact PySem.wpAt_of_wpAny (hr.run pins s1 σ H1 D J q)
end
section
variable {CX : CXT} {P : Program} {w : World} {K : PySem.W.Frag} {mg : Str → Option Value} {base : Heap} {N ps : List Str} {F : NF} {f C cc : Addr} {fd : FuncData} {k : Nat} {sp : Sp}
/-- the def, by its body -/
theorem fn_super (S : Sup P K mg C f fd F cc) (SC : NScope N ps ["__class__"] F.scope) (len : ∀ vs H Q E, sp vs H Q E → vs.length = ps.length)
    (hbody : ∀ (A : Around) (outer : List Env) (s s1 : Shared) (H : Hp) (vs : List V) (Q : VK) (E : XK), Room k (A.deeper (envF F f s.heap.objs.size)) → sp vs H Q E → Inv (ncx CX P w K mg base N F f A outer s H E) [] (startF N vs [none]) H s1 →
      _root_.PySem.wpAt (model P w) (A.deeper (envF F f s.heap.objs.size)) (.func F.body (envF F f s.heap.objs.size)) (execs F.body (envF F f s.heap.objs.size)) (SP (ncx CX P w K mg base N F f A outer s H E) [] { nx := fun _ H' => Q .non H', rt := Q }) (ncx CX P w K mg base N F f A outer s H E).xe s1) :
    FnOk P w K mg base CX (k + 1) f fd ps sp := by
  obtain ⟨oc, od, kV, doc, pm, ct, an, osl, efd, lf⟩ := S.ex
  refine ⟨len, fun A outer s H args us vs Q E hr e0 hb r hsp => ?_⟩
  have hl := len _ _ _ _ hsp
  have KX : K.In s.heap := e0.mod.kin.keeps fun b o e => (e0.bs b o e).1
  have lim : s.heap.NoLimit := e0.mod.nolimit.keeps fun b o e => (e0.bs b o e).1
  obtain ⟨ca, cb, cz, lcc⟩ := S.cell
  have hcc : s.heap.IsCell cc (some (.ref C)) := ⟨_, KX _ _ lcc, rfl⟩
  have ncc : H cc = none := (e0.bs cc _ (e0.mod.kin _ _ lcc)).2
  have CA : CellsAt F.cl ["__class__"] [none] s.heap H := by
    rw [S.cl]
    refine ⟨rfl, fun y c z => ?_, fun x y c z1 z2 => ?_, fun j y z => ?_⟩
    · rw [List.lookup_cons] at z
      split at z
      · cases z; exact ⟨ncc, _, hcc⟩
      · cases z
    · have one : ∀ {y : Str} {c : Addr}, List.lookup y [(("__class__" : Str), cc)] = some c → y = "__class__" := fun {y c} z => by
        cases hb : (y == ("__class__" : Str)) with
        | true => exact beq_iff_eq.mp hb
        | false => rw [List.lookup_cons, hb] at z; cases z
      rw [one z1, one z2]
    · match j, z with
      | 0, z =>
        cases z
        exact ⟨cc, by rw [List.lookup_cons, beq_self_eq_true], fun v e => by cases e⟩
  subst efd
  refine codeAny_call_function hr.depth (KX _ _ lf) rfl SC.co SC.gen rfl (PySem.W.codeRec_of KX S.code) (hb _ _ _ _ ?_)
  refine wpAny_newFunctionEnv SC.nocell (fun ⟨n, _⟩ hy => SC.par n (List.of_mem_zip hy).1) (fun h₁ hns hsb => ⟨lim.fresh _ hsb, ?_⟩) SC.kind
  show codeAny _ _ (.func F.body (envF F f s.heap.objs.size)) _ _
  refine PySem.ks_codeAny_funcAt ?_
  have kp : ∀ b o, s.heap.get? b = some o → h₁.get? b = some o := fun b o e => hsb.extBut b o (Nat.ne_of_lt (Heap.lt_size e)) (Heap.get?_push_of_some _ e)
  have I := inv_startN (CX := CX) (N := N) (f := f) (E := E) (outer := outer) (tk := s.toks + (ps.zip us).length) SC hr.hd e0 hl r CA hns kp
  refine PySem.wpAt_mono (hbody A outer s _ H vs Q E (hr.deeper _) hsp I) (fun fl s' hs => ?_) fun e s' hs => hs
  have fin : ∀ {σ' : L2.St} {H' : Hp} {v : V} {u : Value}, Inv (ncx CX P w K mg base N F f A outer s H E) [] σ' H' s' → L2.RelV v u → Q v H' → CE outer P w H s Q u s' :=
    fun {σ' H' v u} J rv q => ⟨v, H', J.os, J.bare, J.base, J.hok, rv, q⟩
  cases fl with
  | ret u =>
    obtain ⟨v, σ', H', J, rv, q⟩ := hs
    exact fin J rv q
  | next =>
    obtain ⟨σ', H', J, q⟩ := hs
    exact fin (v := V.non) (u := Value.none) J rfl q
  | brk =>
    obtain ⟨_, _, _, q⟩ := hs
    exact False.elim q
  | cont =>
    obtain ⟨_, _, _, q⟩ := hs
    exact False.elim q
end
end Kp
end
section
set_option Elab.async false
set_option linter.all false
set_option maxRecDepth 100000
set_option maxHeartbeats 4000000
namespace Kp
open PySem PySem.Spec PyProof.Rows L2 NdefX
/-! The head of a text with a def that captures __class__. -/
abbrev FnC : Type := Option (Str × Str × Arguments × FuncBody × Scope × Addr × List Str × Addr)
def fnC (K : PySem.W.Frag) (p : Str × Option Str) : FnC := match K.lookup (He.fAd K p) with
  | some ⟨_, _, .func fd, _⟩ => some (fd.name, fd.qualname, fd.params, fd.body, fd.scope, fd.globals, fd.closure.map (·.1), fd.builtins)
  | _ => none
structure CFn where
  at_ : Str × Option Str
  name : Str
  qual : Str
  params : Arguments
  body : List Stmt
  scope : Scope
def CFn.val (d : CFn) : FnC := some (d.name, d.qual, d.params, .stmts d.body, d.scope, mainGlobals, ["__class__"], builtinsNs)
abbrev AlY : Type := He.AlX × List FnC
structure SaysY (fa : List He.Fa) (fn : List He.DefD) (ts : List He.Tab) (tf : List He.Defn) (ex : PySem.W.Frag → Bool) (fc : List CFn) (w : World) (h : Heap) (K : PySem.W.Frag) : Prop where
  x : He.SaysX fa fn ts tf ex w h K
  c : fc.map (fun d => fnC K d.at_) = fc.map CFn.val
theorem SaysY.fn {fa : List He.Fa} {fn : List He.DefD} {ts : List He.Tab} {tf : List He.Defn} {ex : PySem.W.Frag → Bool} {fc : List CFn} {w : World} {h : Heap} {K : PySem.W.Frag} (e : SaysY fa fn ts tf ex fc w h K) (i : Nat) {d : CFn} (hd : fc[i]? = some d) : fnC K d.at_ = d.val := by
  have z : (fc.map (fun d => fnC K d.at_))[i]? = (fc.map CFn.val)[i]? := by rw [e.c]
  rw [List.getElem?_map, List.getElem?_map, hd] at z
  exact Option.some.inj z
/-- the part of the heap: what the module's names reach, and the interpreter's own notes -/
def asY (g : Addr → Option Obj) (n : Nat) : List Addr := He.asD g n ++ [cStatics]
def obsXY (n : Nat) (fa : List He.Fa) (fn : List He.DefD) (ts : List He.Tab) (tf : List He.Defn) (ex : PySem.W.Frag → Bool) (g : Addr → Option Obj) : He.AlX := (He.obsT fa fn ts (He.frT g (asY g n)), ex (He.frT g (asY g n)) && He.tabsB g tf (He.frT g (asY g n)))
theorem saysXY_of {n : Nat} {fa : List He.Fa} {fn : List He.DefD} {ts : List He.Tab} {tf : List He.Defn} {ex : PySem.W.Frag → Bool} {w : World} {h : Heap} (e : obsXY n fa fn ts tf ex h.get? = He.valX fn ts w) : He.SaysX fa fn ts tf ex w h (He.frT h.get? (asY h.get? n)) := by
  have e1 : He.obsT fa fn ts (He.frT h.get? (asY h.get? n)) = He.valT fn ts w := congrArg (fun z : He.AlX => z.1) e
  have e2 : (ex (He.frT h.get? (asY h.get? n)) && He.tabsB h.get? tf (He.frT h.get? (asY h.get? n))) = true := congrArg (fun z : He.AlX => z.2) e
  obtain ⟨h1, h2⟩ := Bool.and_eq_true_iff.mp e2
  have key : ∀ p ∈ tf, PySem.W.codeHdIn (He.frT h.get? (asY h.get? n)) (He.cT (He.frT h.get? (asY h.get? n)) p).1 (He.cT (He.frT h.get? (asY h.get? n)) p).2 = true ∧ ∃ o, h.get? (He.cT (He.frT h.get? (asY h.get? n)) p).2 = some o ∧ He.emptyTab o = true := fun p hp => by
    obtain ⟨h3, h4⟩ := Bool.and_eq_true_iff.mp (List.all_eq_true.mp h2 p hp)
    refine ⟨h3, ?_⟩
    cases q : h.get? (He.cT (He.frT h.get? (asY h.get? n)) p).2 with
    | none =>
      rw [q] at h4
      cases h4
    | some o =>
      rw [q] at h4
      exact ⟨o, rfl, h4⟩
  exact ⟨e1, h1, fun p hp => (key p hp).1, fun p hp => by
    obtain ⟨_, o, q, z⟩ := key p hp
    exact He.frT_none q z, fun p hp => by
    obtain ⟨_, o, q, z⟩ := key p hp
    rw [q, He.emptyTab_eq z]⟩
def obsY (n : Nat) (fa : List He.Fa) (fn : List He.DefD) (ts : List He.Tab) (tf : List He.Defn) (ex : PySem.W.Frag → Bool) (fc : List CFn) (g : Addr → Option Obj) : AlY := (obsXY n fa fn ts tf ex g, fc.map fun d => fnC (He.frT g (asY g n)) d.at_)
def hookY (n : Nat) (fa : List He.Fa) (fn : List He.DefD) (ts : List He.Tab) (tf : List He.Defn) (ex : PySem.W.Frag → Bool) (fc : List CFn) : PySem.W.Hook where
  α := AlY
  obs := fun s => obsY n fa fn ts tf ex fc s.heap.get?
  val := fun w => (He.valX fn ts w, fc.map CFn.val)
  says := fun w h => ∃ K : PySem.W.Frag, K.In h ∧ SaysY fa fn ts tf ex fc w h K
  of := fun _ _ e => ⟨_, He.frT_in, saysXY_of (congrArg (fun z : AlY => z.1) e), congrArg (fun z : AlY => z.2) e⟩
  keeps := fun _ _ _ ⟨K, hK, c⟩ k => ⟨K, PySem.W.Frag.In.keeps hK k, ⟨c.x.t, c.x.more, c.x.hd, c.x.out, fun p hp => k _ _ (c.x.empty p hp)⟩, c.c⟩
theorem obsY_eq {n : Nat} {fa : List He.Fa} {fn : List He.DefD} {ts : List He.Tab} {tf : List He.Defn} {ex : PySem.W.Frag → Bool} {fc : List CFn} {g : Addr → Option Obj} {s : Shared} (h : ∀ a, g a = s.heap.get? a) : obsY n fa fn ts tf ex fc g = (hookY n fa fn ts tf ex fc).obs s := by
  have e : g = s.heap.get? := funext h
  rw [e] <;> rfl
/-! ### the class -/
def oexB (K : PySem.W.Frag) (C : Addr) : Bool := (match K.lookup C with
  | some ⟨.type "type", _, .cls cd, sl⟩ => (match cd.mro, sl.toList with
    | .ref C' :: bm, [_, _, _, _, some (.builtin n), _] => decide (C' = C) && (decide (n = "ValueError.__new__") && (!cd.hasDel && (cd.hasDict && HandSPX.refsVE bm)))
    | _, _ => false)
  | _ => false) && (He.eqO (PySem.W.findIn K (.ref C) "__setattr__") (some (some (.builtin "object.__setattr__"))) && (decide (PySem.W.subIn K (.ref C) (.type "BaseException") = some true) && (decide (PySem.W.typeIn K (.ref C) = some (.type "type")) && PySem.W.keepIn K (.ref C))))
theorem ba2 {a b : Bool} (h : (a && b) = true) : a = true ∧ b = true := Bool.and_eq_true_iff.mp h
theorem oexB_ok {K : PySem.W.Frag} {C : Addr} (h : oexB K C = true) : OexC K C := by
  obtain ⟨h1, h2⟩ := ba2 h
  obtain ⟨h3, h4⟩ := ba2 h2
  obtain ⟨h5, h6⟩ := ba2 h4
  obtain ⟨h7, h8⟩ := ba2 h6
  refine ⟨?_, He.eqO_ok h3, of_decide_eq_true h5, of_decide_eq_true h7, h8⟩
  split at h1
  · rename_i dd cd sl ho
    split at h1
    · rename_i C' bm k0 k1 k2 k3 n k5 hm hs
      obtain ⟨e2, h1⟩ := ba2 h1
      obtain ⟨e3, h1⟩ := ba2 h1
      obtain ⟨e4, h1⟩ := ba2 h1
      obtain ⟨e5, e6⟩ := ba2 h1
      have e2 := of_decide_eq_true e2
      have e3 := of_decide_eq_true e3
      subst e2
      subst e3
      obtain ⟨nm, bs, mro, ns, qn, hd, sn, sub, ab, col, del⟩ := cd
      cases del with
      | true => cases e4
      | false =>
      cases hd with
      | false => cases e5
      | true =>
      have hm : mro = _ := hm
      subst hm
      have hsl : sl = #[k0, k1, k2, k3, some (.builtin "ValueError.__new__"), k5] := by
        obtain ⟨l⟩ := sl
        simp only at hs
        rw [hs]
      subst hsl
      exact ⟨_, _, _, _, _, _, _, _, _, _, _, _, _, _, _, ho, e6⟩
    · cases h1
  · cases h1
def supB (file : Str) (K : PySem.W.Frag) (C f : Addr) (qual : Str) : Bool := match K.lookup f with
  | some ⟨_, _, .func fd, _⟩ => (match fd.closure with
    | [(_, cc)] => (match fd.defaults with | .none => true | _ => false) && (PySem.W.codeIn K fd.code qual && ((match fd.code with
      | .ref c => (match K.lookup c with
        | some ⟨_, _, .fields vs, _⟩ => (match (vs[2]? : Option Value) with | some (.str fl _) => file == fl | _ => false)
        | _ => false)
      | _ => false) && ((match K.lookup cc with
        | some ⟨_, _, .cell (some v), _⟩ => decide (v = .ref C)
        | _ => false) && (decide (PySem.W.mroIn K C (.ref C) = some true) && (decide (PySem.W.subIn K (.ref C) (.type "ValueError") = some true) && (He.eqO (PySem.W.nsIn K cStatics "thirdparty.any") (some none) && He.eqO (PySem.W.ks_superIn K C C "__init__") (some (some (.builtin "ValueError.__init__")))))))))
    | _ => false)
  | _ => false
theorem supB_ok {P : Program} {K : PySem.W.Frag} {mg : Str → Option Value} {x : Str} {st : Stmt} {qual : Str} (h : supB P.main.file K (He.ga K x) (He.ma K (He.ga K x) "__init__") qual = true)
    (e : fnC K (x, some "__init__") = (CFn.mk (x, some "__init__") "__init__" qual (defArgs st) (defBody st) (defScope st)).val) (top : (P.main.scope.names.lookup ("super" : Str)).isSome = false) (nog : mg "super" = none) :
    ∃ (fd : FuncData) (c cc : Addr), Sup P K mg (He.ga K x) (He.ma K (He.ga K x) "__init__") fd (nfB st "__init__" qual cc c) cc ∧ ∀ ps : List Str, (∀ (kV doc pm : Value) (an : Option Addr) (ct : Value) (c : Addr) (us : List Value), us.length = ps.length → bindArgs (PySem.W.fnX "__init__" qual (defArgs st) (defBody st) (defScope st) [(("__class__" : Str), cc)] .none kV doc pm an (.ref c) ct) ⟨us, []⟩ = pure (ps.zip us)) → Binds K fd ps [] := by
  unfold supB at h
  have e : (match K.lookup (He.ma K (He.ga K x) "__init__") with
    | some ⟨_, _, .func fd, _⟩ => some (fd.name, fd.qualname, fd.params, fd.body, fd.scope, fd.globals, fd.closure.map (·.1), fd.builtins)
    | _ => none) = some (("__init__" : Str), qual, defArgs st, FuncBody.stmts (defBody st), defScope st, mainGlobals, [("__class__" : Str)], builtinsNs) := e
  split at h
  · rename_i oc od fd osl lk
    rw [lk] at e
    have e := Option.some.inj e
    obtain ⟨nm, qn, pr, bd, sc, gl, cl, dV, kV, doc, pm, an, cdv, ct, bl⟩ := fd
    injection e with e1 e
    injection e with e2 e
    injection e with e3 e
    injection e with e4 e
    injection e with e5 e
    injection e with e6 e
    injection e with e7 e8
    have e1 : nm = _ := e1
    have e2 : qn = _ := e2
    have e3 : pr = _ := e3
    have e4 : bd = _ := e4
    have e5 : sc = _ := e5
    have e6 : gl = _ := e6
    have e7 : cl.map (·.1) = [("__class__" : Str)] := e7
    have e8 : bl = _ := e8
    subst e1; subst e2; subst e3; subst e4; subst e5; subst e6; subst e8
    dsimp only at h
    rcases cl with _ | ⟨⟨y, cc⟩, _ | ⟨z, r⟩⟩
    · cases h
    · have ey : y = ("__class__" : Str) := (List.cons.inj e7).1
      subst ey
      dsimp only at h
      obtain ⟨h1, h⟩ := ba2 h
      obtain ⟨h2, h⟩ := ba2 h
      obtain ⟨h3, h⟩ := ba2 h
      obtain ⟨h4, h⟩ := ba2 h
      obtain ⟨h5, h⟩ := ba2 h
      obtain ⟨h6, h⟩ := ba2 h
      obtain ⟨h7, h8⟩ := ba2 h
      have ed : dV = .none := by
        split at h1
        · rfl
        · cases h1
      subst ed
      split at h3
      · rename_i c _
        split at h3
        · rename_i a1 a2 vs a3 lc
          split at h3
          · rename_i fl tf hv
            split at h4
            · rename_i b1 b2 v b3 lcc
              have ev := of_decide_eq_true h4
              subst ev
              refine ⟨_, _, cc, ⟨⟨oc, od, kV, doc, pm, ct, an, osl, rfl, lk⟩, h2, rfl, ⟨a1, a2, vs, a3, fl, tf, lc, hv, h3⟩, ⟨b1, b2, b3, lcc⟩, of_decide_eq_true h5, of_decide_eq_true h6, He.eqO_ok h7, He.eqO_ok h8, top, nog⟩, fun ps hb => .all (hb kV doc pm an ct _)⟩
            · cases h4
          · cases h3
        · cases h3
      · cases h3
    · cases h
  · cases h
end Kp
end
section
set_option Elab.async false
set_option linter.all false
set_option maxRecDepth 100000
set_option maxHeartbeats 0
namespace Kp
open PySem PySem.Spec PyProof.Rows L2
def fa0 : List He.Fa := [.free "len",
  .free "int",
  .free "range",
  .free "tuple",
  .free "list",
  .free "enumerate",
  .free "isinstance",
  .free "str",
  .free "bool",
  .free "sorted",
  .free "max",
  .free "all"]
def fa1 : List He.Fa := [.free "zip",
  .free "min",
  .free "any",
  .free "set",
  .glo "edges_of",
  .glo "edges_from",
  .glo "branch_edges",
  .glo "end_edge",
  .glo "followers_of",
  .glo "lines_of",
  .glo "statement_of",
  .glo "assignment_of"]
def fa2 : List He.Fa := [.glo "is_variable",
  .glo "is_number",
  .glo "variables_of",
  .glo "layout_of",
  .glo "check_limits",
  .glo "_law_pool",
  .glo "_law_take",
  .glo "_law_spaced",
  .glo "_law_told",
  .glo "_law_is_integer",
  .glo "_law_same",
  .glo "_law_due"]
def fa3 : List He.Fa := [.glo "_law_deepest",
  .glo "_law_limits",
  .glo "law",
  .glo "Layout",
  .cls "Layout",
  .mkr "Layout",
  .noat "Layout" "kinds",
  .noat "Layout" "starts",
  .noat "Layout" "ends",
  .noat "Layout" "parents",
  .noat "Layout" "depths",
  .noat "Layout" "point_scopes"]
def fa4 : List He.Fa := [.noat "Layout" "begun",
  .noat "Layout" "ended",
  .meth "Layout" "innermost",
  .meth "Layout" "misfit",
  .meth "Layout" "take",
  .meth "Layout" "begin",
  .meth "Layout" "line_depth",
  .glo "Program",
  .cls "Program",
  .mkr "Program",
  .noat "Program" "lines",
  .noat "Program" "statements"]
def fa5 : List He.Fa := [.noat "Program" "variables",
  .noat "Program" "line_depths",
  .noat "Program" "parents",
  .noat "Program" "scope_depths",
  .noat "Program" "loops",
  .noat "Program" "point_scopes",
  .noat "Program" "depths",
  .noat "Program" "edges",
  .noat "Program" "followers",
  .noat "Program" "sites",
  .noat "Program" "site_scopes",
  .meth "Program" "text"]
def fa6 : List He.Fa := [.meth "Program" "scopes_around",
  .glo "ScopeError",
  .glo "TooLong",
  .exc "TooLong",
  .exm "TooLong" "TooLong" true,
  .free "super",
  .free "ValueError",
  .glo "BadProgram",
  .noat "BadProgram" "line",
  .noat "BadProgram" "reason",
  .meth "BadProgram" "__init__",
  .exm "BadProgram" "BadProgram" true]
def fa7 : List He.Fa := [.exm "TooLong" "BadProgram" false,
  .glo "BEGINNERS",
  .glo "ENDERS",
  .glo "SCOPE_LINES",
  .str "DIGITS" "0123456789",
  .int "MOST_DIGITS" 3,
  .int "MOST_CHARACTERS" 4000,
  .int "MOST_LINES" 80,
  .int "MOST_DEPTH" 5,
  .int "MOST_VARIABLES" 6]
def fa : List He.Fa := fa0 ++ (fa1 ++ (fa2 ++ (fa3 ++ (fa4 ++ (fa5 ++ (fa6 ++ (fa7)))))))
def fn0 : List He.DefD := [⟨("edges_of", none), "edges_of", "edges_of", defArgs s_edges_of, defBody s_edges_of, defScope s_edges_of, [], []⟩,
  ⟨("edges_from", none), "edges_from", "edges_from", defArgs s_edges_from, defBody s_edges_from, defScope s_edges_from, [], []⟩,
  ⟨("branch_edges", none), "branch_edges", "branch_edges", defArgs s_branch_edges, defBody s_branch_edges, defScope s_branch_edges, [], []⟩,
  ⟨("end_edge", none), "end_edge", "end_edge", defArgs s_end_edge, defBody s_end_edge, defScope s_end_edge, [], []⟩,
  ⟨("followers_of", none), "followers_of", "followers_of", defArgs s_followers_of, defBody s_followers_of, defScope s_followers_of, [], []⟩,
  ⟨("lines_of", none), "lines_of", "lines_of", defArgs s_lines_of, defBody s_lines_of, defScope s_lines_of, [], []⟩,
  ⟨("statement_of", none), "statement_of", "statement_of", defArgs s_statement_of, defBody s_statement_of, defScope s_statement_of, [], []⟩,
  ⟨("assignment_of", none), "assignment_of", "assignment_of", defArgs s_assignment_of, defBody s_assignment_of, defScope s_assignment_of, [], []⟩]
def fn1 : List He.DefD := [⟨("is_variable", none), "is_variable", "is_variable", defArgs s_is_variable, defBody s_is_variable, defScope s_is_variable, [], []⟩,
  ⟨("is_number", none), "is_number", "is_number", defArgs s_is_number, defBody s_is_number, defScope s_is_number, [], []⟩,
  ⟨("variables_of", none), "variables_of", "variables_of", defArgs s_variables_of, defBody s_variables_of, defScope s_variables_of, [], []⟩,
  ⟨("layout_of", none), "layout_of", "layout_of", defArgs s_layout_of, defBody s_layout_of, defScope s_layout_of, [], []⟩,
  ⟨("check_limits", none), "check_limits", "check_limits", defArgs s_check_limits, defBody s_check_limits, defScope s_check_limits, [], []⟩,
  ⟨("_law_pool", none), "_law_pool", "_law_pool", defArgs s_L_pool, defBody s_L_pool, defScope s_L_pool, [], []⟩,
  ⟨("_law_take", none), "_law_take", "_law_take", defArgs s_L_take, defBody s_L_take, defScope s_L_take, [], []⟩,
  ⟨("_law_spaced", none), "_law_spaced", "_law_spaced", defArgs s_L_spaced, defBody s_L_spaced, defScope s_L_spaced, [], []⟩]
def fn2 : List He.DefD := [⟨("_law_told", none), "_law_told", "_law_told", defArgs s_L_told, defBody s_L_told, defScope s_L_told, [], []⟩,
  ⟨("_law_is_integer", none), "_law_is_integer", "_law_is_integer", defArgs s_L_is_integer, defBody s_L_is_integer, defScope s_L_is_integer, [], []⟩,
  ⟨("_law_same", none), "_law_same", "_law_same", defArgs s_L_same, defBody s_L_same, defScope s_L_same, [], []⟩,
  ⟨("_law_due", none), "_law_due", "_law_due", defArgs s_L_due, defBody s_L_due, defScope s_L_due, [], []⟩,
  ⟨("_law_deepest", none), "_law_deepest", "_law_deepest", defArgs s_L_deepest, defBody s_L_deepest, defScope s_L_deepest, [], []⟩,
  ⟨("_law_limits", none), "_law_limits", "_law_limits", defArgs s_L_limits, defBody s_L_limits, defScope s_L_limits, [], []⟩,
  ⟨("law", none), "law", "law", defArgs s_law, defBody s_law, defScope s_law, [], []⟩,
  ⟨("Layout", some "__init__"), "__init__", "Layout.__init__", defArgs s_Layout_init, defBody s_Layout_init, defScope s_Layout_init, [], []⟩]
def fn3 : List He.DefD := [⟨("Layout", some "innermost"), "innermost", "Layout.innermost", defArgs s_Layout_innermost, defBody s_Layout_innermost, defScope s_Layout_innermost, [], []⟩,
  ⟨("Layout", some "misfit"), "misfit", "Layout.misfit", defArgs s_Layout_misfit, defBody s_Layout_misfit, defScope s_Layout_misfit, [], []⟩,
  ⟨("Layout", some "take"), "take", "Layout.take", defArgs s_Layout_take, defBody s_Layout_take, defScope s_Layout_take, [], []⟩,
  ⟨("Layout", some "begin"), "begin", "Layout.begin", defArgs s_Layout_begin, defBody s_Layout_begin, defScope s_Layout_begin, [], []⟩,
  ⟨("Layout", some "line_depth"), "line_depth", "Layout.line_depth", defArgs s_Layout_line_depth, defBody s_Layout_line_depth, defScope s_Layout_line_depth, [], []⟩,
  ⟨("Program", some "__init__"), "__init__", "Program.__init__", defArgs s_Program_init, defBody s_Program_init, defScope s_Program_init, [], []⟩,
  ⟨("Program", some "text"), "text", "Program.text", defArgs s_Program_text, defBody s_Program_text, defScope s_Program_text, [], []⟩,
  ⟨("Program", some "scopes_around"), "scopes_around", "Program.scopes_around", defArgs s_Program_scopes_around, defBody s_Program_scopes_around, defScope s_Program_scopes_around, [], []⟩]
def fn : List He.DefD := fn0 ++ (fn1 ++ (fn2 ++ (fn3)))
def names0 : List PySem.Str := ["edges_of",
  "edges_from",
  "branch_edges",
  "end_edge",
  "followers_of",
  "ScopeError",
  "BEGINNERS",
  "ENDERS",
  "Layout",
  "SCOPE_LINES",
  "DIGITS",
  "MOST_DIGITS",
  "lines_of",
  "statement_of",
  "assignment_of",
  "is_variable",
  "is_number",
  "variables_of",
  "MOST_CHARACTERS",
  "MOST_LINES"]
def names1 : List PySem.Str := ["MOST_DEPTH",
  "MOST_VARIABLES",
  "TooLong",
  "BadProgram",
  "Program",
  "layout_of",
  "check_limits",
  "_law_pool",
  "_law_take",
  "_law_spaced",
  "_law_told",
  "_law_is_integer",
  "_law_same",
  "_law_due",
  "_law_deepest",
  "_law_limits"]
def names : List PySem.Str := names0 ++ (names1)
def ts : List He.Tab := [(fun K => He.ga K "SCOPE_LINES", ["{", "if ? {", "} else {", "while ? {", "}"])]
def tf : List He.Defn := [("is_number", none)]
def exB (K : PySem.W.Frag) : Bool := (He.tupB K "BEGINNERS" [.str "block", .str "if", .str "else", .str "while"]) && (He.tupB K "ENDERS" [.str "else", .str "end"]) && (ledA K (He.ga K "SCOPE_LINES") "{" [.str "block"] && ledA K (He.ga K "SCOPE_LINES") "if ? {" [.str "if"] && ledA K (He.ga K "SCOPE_LINES") "} else {" [.str "else"] && ledA K (He.ga K "SCOPE_LINES") "while ? {" [.str "while"] && ledA K (He.ga K "SCOPE_LINES") "}" [.str "end"])
def exE (K : PySem.W.Frag) (c : PySem.Str) : Bool := He.eqO (PySem.W.findIn K (.ref (He.ga K c)) "__getattribute__") (some (some (.builtin "BaseException.__getattribute__"))) && (He.eqO (PySem.W.findIn K (.ref (He.ga K c)) "__getattr__") (some none) && (decide (PySem.W.subIn K (.ref (He.ga K c)) (.type "BaseException") = some true) && (PySem.W.hasDictIn K (He.ga K c) && (He.eqO (PySem.W.findIn K (.ref (He.ga K c)) "__class__") (some (some (.builtin "object.__class__"))) && (He.eqO (PySem.W.specialIn K (.builtin "object.__class__") "__get__") (some (some (.builtin "getset_descriptor.__get__"))) && (decide (PySem.W.takesIn K (.builtin "object.__class__") = some true) && (decide (PySem.W.mroIn K (He.ga K c) (.type "object") = some true) && decide (PySem.W.kitOne K (.ref (He.ga K c)) (.ref (He.ga K "ScopeError")) = some true))))))))
def exC (K : PySem.W.Frag) : Bool := exB K && (exE K "TooLong")
def ex (K : PySem.W.Frag) : Bool := exC K && (exE K "BadProgram" && (oexB K (He.ga K "BadProgram") && (supB PySem.Challenge.pw_scopefree_k02_what_does_not_fit.main.file K (He.ga K "BadProgram") (He.ma K (He.ga K "BadProgram") "__init__") "BadProgram.__init__" && (L2.xfB K (He.ga K "BadProgram") && decide (PySem.W.kitOne K (.ref (He.ga K "BadProgram")) (.type "ValueError") = some true)))))
def fcs : List CFn := [⟨("BadProgram", some "__init__"), "__init__", "BadProgram.__init__", defArgs s_BadProgram_init, defBody s_BadProgram_init, defScope s_BadProgram_init⟩]
abbrev R : PySem.W.OpenRow := PySem.W.OpenLaw.row PySem.Challenge.rw_scopefree_k02_what_does_not_fit
abbrev hk : PySem.W.Hook := hookY 6 fa fn ts tf ex fcs
def ob (s : PySem.W.SharedT) : AlY := obsY 6 fa fn ts tf ex fcs (HandSHeadRun.getT s)
theorem ob_eq (s : PySem.W.SharedT) : ob s = hk.obs s.abs := obsY_eq (HandSHeadRun.getT_eq s)
theorem run (w : World) : HandSHeadRun.RunEq R (PySem.W.view R.prog [42]) hk ob 4000 names w :=
  PySem.W.byRow2 (P := fun w => HandSHeadRun.RunEq R (PySem.W.view R.prog [42]) hk ob 4000 names w) "special-get-raises" (fun w => by intro os; kernel_rfl) (fun w => by intro os; kernel_rfl) w
end Kp
end
section
set_option Elab.async false
set_option linter.all false
set_option maxRecDepth 100000
set_option maxHeartbeats 4000000
namespace Kp
open PySem PySem.Spec PyProof.Rows L2
section
variable {K : PySem.W.Frag} {w : World} {h : Heap} {mg : Str → Option Value}
theorem fun_of {x q : Str} {st : Stmt} {f : Addr} {fd : FuncData} (F : FunD K x q (defArgs st) (defBody st) (defScope st) [] [] f fd) : Fun K x q st f fd := by
  obtain ⟨⟨oc, od, dV, kV, doc, pm, an, cdv, ct, osl, e, lk, hc, hd, _⟩, kp⟩ := F
  rcases hd with ⟨_, rfl⟩ | ⟨z, _⟩
  · exact ⟨⟨oc, od, kV, doc, pm, an, cdv, ct, osl, e, lk, hc⟩, kp⟩
  · exact absurd rfl z
abbrev HB (x q : Str) (st : Stmt) (ps : List Str) : Prop := ∀ (kV doc pm : Value) (an : Option Addr) (cdv ct : Value) (us : List Value), us.length = ps.length → bindArgs (PySem.W.fnOf x q (defArgs st) (defBody st) (defScope st) .none kV doc pm an cdv ct) ⟨us, []⟩ = pure (ps.zip us)
theorem df_of {x : Str} {st : Stmt} {ps : List Str} (X : K.In h) (G : h.Ns mainGlobals mg) (F : ∃ fd, FunD K x x (defArgs st) (defBody st) (defScope st) [] [] (He.ga K x) fd) (g : (He.Fa.glo x).ok K = true) (hb : HB x x st ps) : ∃ fd, Df K mg x st ps (He.ga K x) fd := by
  obtain ⟨fd, F⟩ := F
  exact ⟨fd, fun_of F, (fun_of F).binds hb, He.glo_ok X G g⟩
theorem dm_of {C m : Str} {q : Str} {st : Stmt} {ps : List Str} (F : ∃ fd, FunD K m q (defArgs st) (defBody st) (defScope st) [] [] (He.ma K (He.ga K C) m) fd) (g : Meth K (He.ga K C) m (He.ma K (He.ga K C) m)) (hb : HB m q st ps) : ∃ fd, Dm K (He.ga K C) m q st ps (He.ma K (He.ga K C) m) fd := by
  obtain ⟨fd, F⟩ := F
  exact ⟨fd, fun_of F, (fun_of F).binds hb, g⟩
theorem di_of {C : Str} {q : Str} {st : Stmt} {ps : List Str} (F : ∃ fd, FunD K "__init__" q (defArgs st) (defBody st) (defScope st) [] [] (He.ma K (He.ga K C) "__init__") fd) (g : Mk K (He.ga K C) (He.ma K (He.ga K C) "__init__")) (hb : HB "__init__" q st ps) : ∃ fd, Di K (He.ga K C) q st ps (He.ma K (He.ga K C) "__init__") fd := by
  obtain ⟨fd, F⟩ := F
  exact ⟨fd, fun_of F, (fun_of F).binds hb, g⟩
theorem x_edges_of (X : K.In h) (G : h.Ns mainGlobals mg) (c : He.SaysD fa fn K) : ∃ fd, Df K mg "edges_of" s_edges_of ["lines", "statements", "layout"] (He.ga K "edges_of") fd :=
  df_of X G (c.def_ 0 (d := ⟨("edges_of", none), "edges_of", "edges_of", defArgs s_edges_of, defBody s_edges_of, defScope s_edges_of, [], []⟩) rfl) (c.fact 16 (f := .glo "edges_of") rfl) (fun _ _ _ _ _ _ us hl => match us, hl with | [_, _, _], _ => rfl)
theorem x_edges_from (X : K.In h) (G : h.Ns mainGlobals mg) (c : He.SaysD fa fn K) : ∃ fd, Df K mg "edges_from" s_edges_from ["at", "line", "word", "layout"] (He.ga K "edges_from") fd :=
  df_of X G (c.def_ 1 (d := ⟨("edges_from", none), "edges_from", "edges_from", defArgs s_edges_from, defBody s_edges_from, defScope s_edges_from, [], []⟩) rfl) (c.fact 17 (f := .glo "edges_from") rfl) (fun _ _ _ _ _ _ us hl => match us, hl with | [_, _, _, _], _ => rfl)
theorem x_branch_edges (X : K.In h) (G : h.Ns mainGlobals mg) (c : He.SaysD fa fn K) : ∃ fd, Df K mg "branch_edges" s_branch_edges ["at", "layout"] (He.ga K "branch_edges") fd :=
  df_of X G (c.def_ 2 (d := ⟨("branch_edges", none), "branch_edges", "branch_edges", defArgs s_branch_edges, defBody s_branch_edges, defScope s_branch_edges, [], []⟩) rfl) (c.fact 18 (f := .glo "branch_edges") rfl) (fun _ _ _ _ _ _ us hl => match us, hl with | [_, _], _ => rfl)
theorem x_end_edge (X : K.In h) (G : h.Ns mainGlobals mg) (c : He.SaysD fa fn K) : ∃ fd, Df K mg "end_edge" s_end_edge ["at", "layout"] (He.ga K "end_edge") fd :=
  df_of X G (c.def_ 3 (d := ⟨("end_edge", none), "end_edge", "end_edge", defArgs s_end_edge, defBody s_end_edge, defScope s_end_edge, [], []⟩) rfl) (c.fact 19 (f := .glo "end_edge") rfl) (fun _ _ _ _ _ _ us hl => match us, hl with | [_, _], _ => rfl)
theorem x_followers_of (X : K.In h) (G : h.Ns mainGlobals mg) (c : He.SaysD fa fn K) : ∃ fd, Df K mg "followers_of" s_followers_of ["edges", "many"] (He.ga K "followers_of") fd :=
  df_of X G (c.def_ 4 (d := ⟨("followers_of", none), "followers_of", "followers_of", defArgs s_followers_of, defBody s_followers_of, defScope s_followers_of, [], []⟩) rfl) (c.fact 20 (f := .glo "followers_of") rfl) (fun _ _ _ _ _ _ us hl => match us, hl with | [_, _], _ => rfl)
theorem x_lines_of (X : K.In h) (G : h.Ns mainGlobals mg) (c : He.SaysD fa fn K) : ∃ fd, Df K mg "lines_of" s_lines_of ["text"] (He.ga K "lines_of") fd :=
  df_of X G (c.def_ 5 (d := ⟨("lines_of", none), "lines_of", "lines_of", defArgs s_lines_of, defBody s_lines_of, defScope s_lines_of, [], []⟩) rfl) (c.fact 21 (f := .glo "lines_of") rfl) (fun _ _ _ _ _ _ us hl => match us, hl with | [_], _ => rfl)
theorem x_statement_of (X : K.In h) (G : h.Ns mainGlobals mg) (c : He.SaysD fa fn K) : ∃ fd, Df K mg "statement_of" s_statement_of ["line"] (He.ga K "statement_of") fd :=
  df_of X G (c.def_ 6 (d := ⟨("statement_of", none), "statement_of", "statement_of", defArgs s_statement_of, defBody s_statement_of, defScope s_statement_of, [], []⟩) rfl) (c.fact 22 (f := .glo "statement_of") rfl) (fun _ _ _ _ _ _ us hl => match us, hl with | [_], _ => rfl)
theorem x_assignment_of (X : K.In h) (G : h.Ns mainGlobals mg) (c : He.SaysD fa fn K) : ∃ fd, Df K mg "assignment_of" s_assignment_of ["name", "value"] (He.ga K "assignment_of") fd :=
  df_of X G (c.def_ 7 (d := ⟨("assignment_of", none), "assignment_of", "assignment_of", defArgs s_assignment_of, defBody s_assignment_of, defScope s_assignment_of, [], []⟩) rfl) (c.fact 23 (f := .glo "assignment_of") rfl) (fun _ _ _ _ _ _ us hl => match us, hl with | [_, _], _ => rfl)
theorem x_is_variable (X : K.In h) (G : h.Ns mainGlobals mg) (c : He.SaysD fa fn K) : ∃ fd, Df K mg "is_variable" s_is_variable ["word"] (He.ga K "is_variable") fd :=
  df_of X G (c.def_ 8 (d := ⟨("is_variable", none), "is_variable", "is_variable", defArgs s_is_variable, defBody s_is_variable, defScope s_is_variable, [], []⟩) rfl) (c.fact 24 (f := .glo "is_variable") rfl) (fun _ _ _ _ _ _ us hl => match us, hl with | [_], _ => rfl)
theorem x_is_number (X : K.In h) (G : h.Ns mainGlobals mg) (c : He.SaysD fa fn K) : ∃ fd, Df K mg "is_number" s_is_number ["word"] (He.ga K "is_number") fd :=
  df_of X G (c.def_ 9 (d := ⟨("is_number", none), "is_number", "is_number", defArgs s_is_number, defBody s_is_number, defScope s_is_number, [], []⟩) rfl) (c.fact 25 (f := .glo "is_number") rfl) (fun _ _ _ _ _ _ us hl => match us, hl with | [_], _ => rfl)
theorem x_variables_of (X : K.In h) (G : h.Ns mainGlobals mg) (c : He.SaysD fa fn K) : ∃ fd, Df K mg "variables_of" s_variables_of ["statements"] (He.ga K "variables_of") fd :=
  df_of X G (c.def_ 10 (d := ⟨("variables_of", none), "variables_of", "variables_of", defArgs s_variables_of, defBody s_variables_of, defScope s_variables_of, [], []⟩) rfl) (c.fact 26 (f := .glo "variables_of") rfl) (fun _ _ _ _ _ _ us hl => match us, hl with | [_], _ => rfl)
theorem x_layout_of (X : K.In h) (G : h.Ns mainGlobals mg) (c : He.SaysD fa fn K) : ∃ fd, Df K mg "layout_of" s_layout_of ["statements"] (He.ga K "layout_of") fd :=
  df_of X G (c.def_ 11 (d := ⟨("layout_of", none), "layout_of", "layout_of", defArgs s_layout_of, defBody s_layout_of, defScope s_layout_of, [], []⟩) rfl) (c.fact 27 (f := .glo "layout_of") rfl) (fun _ _ _ _ _ _ us hl => match us, hl with | [_], _ => rfl)
theorem x_check_limits (X : K.In h) (G : h.Ns mainGlobals mg) (c : He.SaysD fa fn K) : ∃ fd, Df K mg "check_limits" s_check_limits ["lines", "depths", "variables"] (He.ga K "check_limits") fd :=
  df_of X G (c.def_ 12 (d := ⟨("check_limits", none), "check_limits", "check_limits", defArgs s_check_limits, defBody s_check_limits, defScope s_check_limits, [], []⟩) rfl) (c.fact 28 (f := .glo "check_limits") rfl) (fun _ _ _ _ _ _ us hl => match us, hl with | [_, _, _], _ => rfl)
theorem x_L_pool (X : K.In h) (G : h.Ns mainGlobals mg) (c : He.SaysD fa fn K) : ∃ fd, Df K mg "_law_pool" s_L_pool ["script"] (He.ga K "_law_pool") fd :=
  df_of X G (c.def_ 13 (d := ⟨("_law_pool", none), "_law_pool", "_law_pool", defArgs s_L_pool, defBody s_L_pool, defScope s_L_pool, [], []⟩) rfl) (c.fact 29 (f := .glo "_law_pool") rfl) (fun _ _ _ _ _ _ us hl => match us, hl with | [_], _ => rfl)
theorem x_L_take (X : K.In h) (G : h.Ns mainGlobals mg) (c : He.SaysD fa fn K) : ∃ fd, Df K mg "_law_take" s_L_take ["pool", "many"] (He.ga K "_law_take") fd :=
  df_of X G (c.def_ 14 (d := ⟨("_law_take", none), "_law_take", "_law_take", defArgs s_L_take, defBody s_L_take, defScope s_L_take, [], []⟩) rfl) (c.fact 30 (f := .glo "_law_take") rfl) (fun _ _ _ _ _ _ us hl => match us, hl with | [_, _], _ => rfl)
theorem x_L_spaced (X : K.In h) (G : h.Ns mainGlobals mg) (c : He.SaysD fa fn K) : ∃ fd, Df K mg "_law_spaced" s_L_spaced ["pool", "lines"] (He.ga K "_law_spaced") fd :=
  df_of X G (c.def_ 15 (d := ⟨("_law_spaced", none), "_law_spaced", "_law_spaced", defArgs s_L_spaced, defBody s_L_spaced, defScope s_L_spaced, [], []⟩) rfl) (c.fact 31 (f := .glo "_law_spaced") rfl) (fun _ _ _ _ _ _ us hl => match us, hl with | [_, _], _ => rfl)
theorem x_L_told (X : K.In h) (G : h.Ns mainGlobals mg) (c : He.SaysD fa fn K) : ∃ fd, Df K mg "_law_told" s_L_told ["text"] (He.ga K "_law_told") fd :=
  df_of X G (c.def_ 16 (d := ⟨("_law_told", none), "_law_told", "_law_told", defArgs s_L_told, defBody s_L_told, defScope s_L_told, [], []⟩) rfl) (c.fact 32 (f := .glo "_law_told") rfl) (fun _ _ _ _ _ _ us hl => match us, hl with | [_], _ => rfl)
theorem x_L_is_integer (X : K.In h) (G : h.Ns mainGlobals mg) (c : He.SaysD fa fn K) : ∃ fd, Df K mg "_law_is_integer" s_L_is_integer ["actual"] (He.ga K "_law_is_integer") fd :=
  df_of X G (c.def_ 17 (d := ⟨("_law_is_integer", none), "_law_is_integer", "_law_is_integer", defArgs s_L_is_integer, defBody s_L_is_integer, defScope s_L_is_integer, [], []⟩) rfl) (c.fact 33 (f := .glo "_law_is_integer") rfl) (fun _ _ _ _ _ _ us hl => match us, hl with | [_], _ => rfl)
theorem x_L_same (X : K.In h) (G : h.Ns mainGlobals mg) (c : He.SaysD fa fn K) : ∃ fd, Df K mg "_law_same" s_L_same ["actual", "due"] (He.ga K "_law_same") fd :=
  df_of X G (c.def_ 18 (d := ⟨("_law_same", none), "_law_same", "_law_same", defArgs s_L_same, defBody s_L_same, defScope s_L_same, [], []⟩) rfl) (c.fact 34 (f := .glo "_law_same") rfl) (fun _ _ _ _ _ _ us hl => match us, hl with | [_, _], _ => rfl)
theorem x_L_due (X : K.In h) (G : h.Ns mainGlobals mg) (c : He.SaysD fa fn K) : ∃ fd, Df K mg "_law_due" s_L_due ["lines"] (He.ga K "_law_due") fd :=
  df_of X G (c.def_ 19 (d := ⟨("_law_due", none), "_law_due", "_law_due", defArgs s_L_due, defBody s_L_due, defScope s_L_due, [], []⟩) rfl) (c.fact 35 (f := .glo "_law_due") rfl) (fun _ _ _ _ _ _ us hl => match us, hl with | [_], _ => rfl)
theorem x_L_deepest (X : K.In h) (G : h.Ns mainGlobals mg) (c : He.SaysD fa fn K) : ∃ fd, Df K mg "_law_deepest" s_L_deepest ["lines"] (He.ga K "_law_deepest") fd :=
  df_of X G (c.def_ 20 (d := ⟨("_law_deepest", none), "_law_deepest", "_law_deepest", defArgs s_L_deepest, defBody s_L_deepest, defScope s_L_deepest, [], []⟩) rfl) (c.fact 36 (f := .glo "_law_deepest") rfl) (fun _ _ _ _ _ _ us hl => match us, hl with | [_], _ => rfl)
theorem x_L_limits (X : K.In h) (G : h.Ns mainGlobals mg) (c : He.SaysD fa fn K) : ∃ fd, Df K mg "_law_limits" s_L_limits ["pool"] (He.ga K "_law_limits") fd :=
  df_of X G (c.def_ 21 (d := ⟨("_law_limits", none), "_law_limits", "_law_limits", defArgs s_L_limits, defBody s_L_limits, defScope s_L_limits, [], []⟩) rfl) (c.fact 37 (f := .glo "_law_limits") rfl) (fun _ _ _ _ _ _ us hl => match us, hl with | [_], _ => rfl)
theorem x_Layout_init (c : He.SaysD fa fn K) : ∃ fd, Di K (He.ga K "Layout") "Layout.__init__" s_Layout_init ["self"] (He.ma K (He.ga K "Layout") "__init__") fd :=
  di_of (c.def_ 23 (d := ⟨("Layout", some "__init__"), "__init__", "Layout.__init__", defArgs s_Layout_init, defBody s_Layout_init, defScope s_Layout_init, [], []⟩) rfl) (He.mkr_ok (c.fact 41 (f := .mkr "Layout") rfl)) (fun _ _ _ _ _ _ us hl => match us, hl with | [_], _ => rfl)
theorem x_Layout_innermost (c : He.SaysD fa fn K) : ∃ fd, Dm K (He.ga K "Layout") "innermost" "Layout.innermost" s_Layout_innermost ["self"] (He.ma K (He.ga K "Layout") "innermost") fd :=
  dm_of (c.def_ 24 (d := ⟨("Layout", some "innermost"), "innermost", "Layout.innermost", defArgs s_Layout_innermost, defBody s_Layout_innermost, defScope s_Layout_innermost, [], []⟩) rfl) (He.meth_ok (c.fact 50 (f := .meth "Layout" "innermost") rfl)) (fun _ _ _ _ _ _ us hl => match us, hl with | [_], _ => rfl)
theorem x_Layout_misfit (c : He.SaysD fa fn K) : ∃ fd, Dm K (He.ga K "Layout") "misfit" "Layout.misfit" s_Layout_misfit ["self", "word"] (He.ma K (He.ga K "Layout") "misfit") fd :=
  dm_of (c.def_ 25 (d := ⟨("Layout", some "misfit"), "misfit", "Layout.misfit", defArgs s_Layout_misfit, defBody s_Layout_misfit, defScope s_Layout_misfit, [], []⟩) rfl) (He.meth_ok (c.fact 51 (f := .meth "Layout" "misfit") rfl)) (fun _ _ _ _ _ _ us hl => match us, hl with | [_, _], _ => rfl)
theorem x_Layout_take (c : He.SaysD fa fn K) : ∃ fd, Dm K (He.ga K "Layout") "take" "Layout.take" s_Layout_take ["self", "word"] (He.ma K (He.ga K "Layout") "take") fd :=
  dm_of (c.def_ 26 (d := ⟨("Layout", some "take"), "take", "Layout.take", defArgs s_Layout_take, defBody s_Layout_take, defScope s_Layout_take, [], []⟩) rfl) (He.meth_ok (c.fact 52 (f := .meth "Layout" "take") rfl)) (fun _ _ _ _ _ _ us hl => match us, hl with | [_, _], _ => rfl)
theorem x_Layout_begin (c : He.SaysD fa fn K) : ∃ fd, Dm K (He.ga K "Layout") "begin" "Layout.begin" s_Layout_begin ["self", "word", "line", "parent"] (He.ma K (He.ga K "Layout") "begin") fd :=
  dm_of (c.def_ 27 (d := ⟨("Layout", some "begin"), "begin", "Layout.begin", defArgs s_Layout_begin, defBody s_Layout_begin, defScope s_Layout_begin, [], []⟩) rfl) (He.meth_ok (c.fact 53 (f := .meth "Layout" "begin") rfl)) (fun _ _ _ _ _ _ us hl => match us, hl with | [_, _, _, _], _ => rfl)
theorem x_Layout_line_depth (c : He.SaysD fa fn K) : ∃ fd, Dm K (He.ga K "Layout") "line_depth" "Layout.line_depth" s_Layout_line_depth ["self", "line"] (He.ma K (He.ga K "Layout") "line_depth") fd :=
  dm_of (c.def_ 28 (d := ⟨("Layout", some "line_depth"), "line_depth", "Layout.line_depth", defArgs s_Layout_line_depth, defBody s_Layout_line_depth, defScope s_Layout_line_depth, [], []⟩) rfl) (He.meth_ok (c.fact 54 (f := .meth "Layout" "line_depth") rfl)) (fun _ _ _ _ _ _ us hl => match us, hl with | [_, _], _ => rfl)
theorem x_Program_init (c : He.SaysD fa fn K) : ∃ fd, Di K (He.ga K "Program") "Program.__init__" s_Program_init ["self", "text"] (He.ma K (He.ga K "Program") "__init__") fd :=
  di_of (c.def_ 29 (d := ⟨("Program", some "__init__"), "__init__", "Program.__init__", defArgs s_Program_init, defBody s_Program_init, defScope s_Program_init, [], []⟩) rfl) (He.mkr_ok (c.fact 57 (f := .mkr "Program") rfl)) (fun _ _ _ _ _ _ us hl => match us, hl with | [_, _], _ => rfl)
theorem x_Program_text (c : He.SaysD fa fn K) : ∃ fd, Dm K (He.ga K "Program") "text" "Program.text" s_Program_text ["self"] (He.ma K (He.ga K "Program") "text") fd :=
  dm_of (c.def_ 30 (d := ⟨("Program", some "text"), "text", "Program.text", defArgs s_Program_text, defBody s_Program_text, defScope s_Program_text, [], []⟩) rfl) (He.meth_ok (c.fact 71 (f := .meth "Program" "text") rfl)) (fun _ _ _ _ _ _ us hl => match us, hl with | [_], _ => rfl)
theorem x_Program_scopes_around (c : He.SaysD fa fn K) : ∃ fd, Dm K (He.ga K "Program") "scopes_around" "Program.scopes_around" s_Program_scopes_around ["self", "number"] (He.ma K (He.ga K "Program") "scopes_around") fd :=
  dm_of (c.def_ 31 (d := ⟨("Program", some "scopes_around"), "scopes_around", "Program.scopes_around", defArgs s_Program_scopes_around, defBody s_Program_scopes_around, defScope s_Program_scopes_around, [], []⟩) rfl) (He.meth_ok (c.fact 72 (f := .meth "Program" "scopes_around") rfl)) (fun _ _ _ _ _ _ us hl => match us, hl with | [_, _], _ => rfl)
theorem bb {a b : Bool} (h : (a && b) = true) : a = true ∧ b = true := Bool.and_eq_true_iff.mp h
theorem ex_BEGINNERS (h : ex K = true) : He.tupB K "BEGINNERS" [.str "block", .str "if", .str "else", .str "while"] = true := (bb (bb (bb (bb h).1).1).1).1
theorem ex_ENDERS (h : ex K = true) : He.tupB K "ENDERS" [.str "else", .str "end"] = true := (bb (bb (bb (bb h).1).1).1).2
theorem ex_vs (h : ex K = true) : (ledA K (He.ga K "SCOPE_LINES") "{" [.str "block"] && ledA K (He.ga K "SCOPE_LINES") "if ? {" [.str "if"] && ledA K (He.ga K "SCOPE_LINES") "} else {" [.str "else"] && ledA K (He.ga K "SCOPE_LINES") "while ? {" [.str "while"] && ledA K (He.ga K "SCOPE_LINES") "}" [.str "end"]) = true := (bb (bb (bb h).1).1).2
theorem exE_ok {c : Str} (h : exE K c = true) : ExcC K (He.ga K c) ∧ PySem.W.kitOne K (.ref (He.ga K c)) (.ref (He.ga K "ScopeError")) = some true := by
  have h1 := bb h
  have h2 := bb h1.2
  have h3 := bb h2.2
  have h4 := bb h3.2
  have h5 := bb h4.2
  have h6 := bb h5.2
  have h7 := bb h6.2
  have h8 := bb h7.2
  exact ⟨⟨He.eqO_ok h1.1, He.eqO_ok h2.1, of_decide_eq_true h3.1, h4.1, He.eqO_ok h5.1, He.eqO_ok h6.1, of_decide_eq_true h7.1, of_decide_eq_true h8.1⟩, of_decide_eq_true h8.2⟩
theorem ex_E_TooLong (h : ex K = true) : exE K "TooLong" = true := (bb (bb h).1).2
theorem ex_v0 (h : ex K = true) : ledA K (He.ga K "SCOPE_LINES") "{" [.str "block"] = true := (bb (bb (bb (bb (ex_vs h)).1).1).1).1
theorem ex_v1 (h : ex K = true) : ledA K (He.ga K "SCOPE_LINES") "if ? {" [.str "if"] = true := (bb (bb (bb (bb (ex_vs h)).1).1).1).2
theorem ex_v2 (h : ex K = true) : ledA K (He.ga K "SCOPE_LINES") "} else {" [.str "else"] = true := (bb (bb (bb (ex_vs h)).1).1).2
theorem ex_v3 (h : ex K = true) : ledA K (He.ga K "SCOPE_LINES") "while ? {" [.str "while"] = true := (bb (bb (ex_vs h)).1).2
theorem ex_v4 (h : ex K = true) : ledA K (He.ga K "SCOPE_LINES") "}" [.str "end"] = true := (bb (ex_vs h)).2
theorem kx_E (h : ex K = true) : exE K "BadProgram" = true := (bb (bb h).2).1
theorem kx_ox (h : ex K = true) : oexB K (He.ga K "BadProgram") = true := (bb (bb (bb h).2).2).1
theorem kx_su (h : ex K = true) : supB PySem.Challenge.pw_scopefree_k02_what_does_not_fit.main.file K (He.ga K "BadProgram") (He.ma K (He.ga K "BadProgram") "__init__") "BadProgram.__init__" = true := (bb (bb (bb (bb h).2).2).2).1
theorem kx_xf (h : ex K = true) : L2.xfB K (He.ga K "BadProgram") = true := (bb (bb (bb (bb (bb h).2).2).2).2).1
theorem kx_iv (h : ex K = true) : decide (PySem.W.kitOne K (.ref (He.ga K "BadProgram")) (.type "ValueError") = some true) = true := (bb (bb (bb (bb (bb h).2).2).2).2).2
theorem kx_fn (X : K.In h) (G : h.Ns mainGlobals mg) (e0 : SaysY fa fn ts tf ex fcs w h K) : ∃ (fd : FuncData) (c cc : Addr), Sup PySem.Challenge.pw_scopefree_k02_what_does_not_fit K mg (He.ga K "BadProgram") (He.ma K (He.ga K "BadProgram") "__init__") fd (nfB s_BadProgram_init "__init__" "BadProgram.__init__" cc c) cc ∧ Binds K fd ["self", "line", "reason"] [] := by
  have c : He.SaysD fa fn K := e0.x.t.d
  obtain ⟨fd, c1, cc, h1, h2⟩ := supB_ok (P := PySem.Challenge.pw_scopefree_k02_what_does_not_fit) (mg := mg) (st := s_BadProgram_init) (kx_su e0.x.more) (e0.fn 0 (d := ⟨("BadProgram", some "__init__"), "__init__", "BadProgram.__init__", defArgs s_BadProgram_init, defBody s_BadProgram_init, defScope s_BadProgram_init⟩) rfl) (by decide +kernel) (He.free_ok X G (c.fact 77 (f := .free "super") rfl))
  exact ⟨fd, c1, cc, h1, h2 _ (fun _ _ _ _ _ _ us hl => match us, hl with | [_, _, _], _ => rfl)⟩
noncomputable def txOf (X : K.In h) (G : h.Ns mainGlobals mg) (e0 : SaysY fa fn ts tf ex fcs w h K) : Tx K w mg :=
  have e := e0.x
  have c : He.SaysD fa fn K := e.t.d
  {
    B := ⟨He.free_ok X G (c.fact 0 (f := .free "len") rfl), He.free_ok X G (c.fact 1 (f := .free "int") rfl), He.free_ok X G (c.fact 2 (f := .free "range") rfl), He.free_ok X G (c.fact 3 (f := .free "tuple") rfl), He.free_ok X G (c.fact 4 (f := .free "list") rfl), He.free_ok X G (c.fact 5 (f := .free "enumerate") rfl), He.free_ok X G (c.fact 6 (f := .free "isinstance") rfl), He.free_ok X G (c.fact 7 (f := .free "str") rfl), He.free_ok X G (c.fact 8 (f := .free "bool") rfl), He.free_ok X G (c.fact 9 (f := .free "sorted") rfl), He.free_ok X G (c.fact 10 (f := .free "max") rfl), He.free_ok X G (c.fact 11 (f := .free "all") rfl), He.free_ok X G (c.fact 12 (f := .free "zip") rfl), He.free_ok X G (c.fact 13 (f := .free "min") rfl), He.free_ok X G (c.fact 14 (f := .free "any") rfl), He.free_ok X G (c.fact 15 (f := .free "set") rfl)⟩,
    f_edges_of := He.ga K "edges_of",
    d_edges_of := (x_edges_of X G c).choose,
    edges_of := (x_edges_of X G c).choose_spec,
    f_edges_from := He.ga K "edges_from",
    d_edges_from := (x_edges_from X G c).choose,
    edges_from := (x_edges_from X G c).choose_spec,
    f_branch_edges := He.ga K "branch_edges",
    d_branch_edges := (x_branch_edges X G c).choose,
    branch_edges := (x_branch_edges X G c).choose_spec,
    f_end_edge := He.ga K "end_edge",
    d_end_edge := (x_end_edge X G c).choose,
    end_edge := (x_end_edge X G c).choose_spec,
    f_followers_of := He.ga K "followers_of",
    d_followers_of := (x_followers_of X G c).choose,
    followers_of := (x_followers_of X G c).choose_spec,
    f_lines_of := He.ga K "lines_of",
    d_lines_of := (x_lines_of X G c).choose,
    lines_of := (x_lines_of X G c).choose_spec,
    f_statement_of := He.ga K "statement_of",
    d_statement_of := (x_statement_of X G c).choose,
    statement_of := (x_statement_of X G c).choose_spec,
    f_assignment_of := He.ga K "assignment_of",
    d_assignment_of := (x_assignment_of X G c).choose,
    assignment_of := (x_assignment_of X G c).choose_spec,
    f_is_variable := He.ga K "is_variable",
    d_is_variable := (x_is_variable X G c).choose,
    is_variable := (x_is_variable X G c).choose_spec,
    f_is_number := He.ga K "is_number",
    d_is_number := (x_is_number X G c).choose,
    is_number := (x_is_number X G c).choose_spec,
    f_variables_of := He.ga K "variables_of",
    d_variables_of := (x_variables_of X G c).choose,
    variables_of := (x_variables_of X G c).choose_spec,
    f_layout_of := He.ga K "layout_of",
    d_layout_of := (x_layout_of X G c).choose,
    layout_of := (x_layout_of X G c).choose_spec,
    f_check_limits := He.ga K "check_limits",
    d_check_limits := (x_check_limits X G c).choose,
    check_limits := (x_check_limits X G c).choose_spec,
    f_L_pool := He.ga K "_law_pool",
    d_L_pool := (x_L_pool X G c).choose,
    L_pool := (x_L_pool X G c).choose_spec,
    f_L_take := He.ga K "_law_take",
    d_L_take := (x_L_take X G c).choose,
    L_take := (x_L_take X G c).choose_spec,
    f_L_spaced := He.ga K "_law_spaced",
    d_L_spaced := (x_L_spaced X G c).choose,
    L_spaced := (x_L_spaced X G c).choose_spec,
    f_L_told := He.ga K "_law_told",
    d_L_told := (x_L_told X G c).choose,
    L_told := (x_L_told X G c).choose_spec,
    f_L_is_integer := He.ga K "_law_is_integer",
    d_L_is_integer := (x_L_is_integer X G c).choose,
    L_is_integer := (x_L_is_integer X G c).choose_spec,
    f_L_same := He.ga K "_law_same",
    d_L_same := (x_L_same X G c).choose,
    L_same := (x_L_same X G c).choose_spec,
    f_L_due := He.ga K "_law_due",
    d_L_due := (x_L_due X G c).choose,
    L_due := (x_L_due X G c).choose_spec,
    f_L_deepest := He.ga K "_law_deepest",
    d_L_deepest := (x_L_deepest X G c).choose,
    L_deepest := (x_L_deepest X G c).choose_spec,
    f_L_limits := He.ga K "_law_limits",
    d_L_limits := (x_L_limits X G c).choose,
    L_limits := (x_L_limits X G c).choose_spec,
    C_Layout := He.ga K "Layout",
    cl_Layout := He.cls_ok (c.fact 40 (f := .cls "Layout") rfl),
    g_Layout := He.glo_ok X G (c.fact 39 (f := .glo "Layout") rfl),
    n_Layout_kinds := He.noat_ok (c.fact 42 (f := .noat "Layout" "kinds") rfl),
    n_Layout_starts := He.noat_ok (c.fact 43 (f := .noat "Layout" "starts") rfl),
    n_Layout_ends := He.noat_ok (c.fact 44 (f := .noat "Layout" "ends") rfl),
    n_Layout_parents := He.noat_ok (c.fact 45 (f := .noat "Layout" "parents") rfl),
    n_Layout_depths := He.noat_ok (c.fact 46 (f := .noat "Layout" "depths") rfl),
    n_Layout_point_scopes := He.noat_ok (c.fact 47 (f := .noat "Layout" "point_scopes") rfl),
    n_Layout_begun := He.noat_ok (c.fact 48 (f := .noat "Layout" "begun") rfl),
    n_Layout_ended := He.noat_ok (c.fact 49 (f := .noat "Layout" "ended") rfl),
    f_Layout_init := He.ma K (He.ga K "Layout") "__init__",
    d_Layout_init := (x_Layout_init c).choose,
    Layout_init := (x_Layout_init c).choose_spec,
    f_Layout_innermost := He.ma K (He.ga K "Layout") "innermost",
    d_Layout_innermost := (x_Layout_innermost c).choose,
    Layout_innermost := (x_Layout_innermost c).choose_spec,
    f_Layout_misfit := He.ma K (He.ga K "Layout") "misfit",
    d_Layout_misfit := (x_Layout_misfit c).choose,
    Layout_misfit := (x_Layout_misfit c).choose_spec,
    f_Layout_take := He.ma K (He.ga K "Layout") "take",
    d_Layout_take := (x_Layout_take c).choose,
    Layout_take := (x_Layout_take c).choose_spec,
    f_Layout_begin := He.ma K (He.ga K "Layout") "begin",
    d_Layout_begin := (x_Layout_begin c).choose,
    Layout_begin := (x_Layout_begin c).choose_spec,
    f_Layout_line_depth := He.ma K (He.ga K "Layout") "line_depth",
    d_Layout_line_depth := (x_Layout_line_depth c).choose,
    Layout_line_depth := (x_Layout_line_depth c).choose_spec,
    C_Program := He.ga K "Program",
    cl_Program := He.cls_ok (c.fact 56 (f := .cls "Program") rfl),
    g_Program := He.glo_ok X G (c.fact 55 (f := .glo "Program") rfl),
    n_Program_lines := He.noat_ok (c.fact 58 (f := .noat "Program" "lines") rfl),
    n_Program_statements := He.noat_ok (c.fact 59 (f := .noat "Program" "statements") rfl),
    n_Program_variables := He.noat_ok (c.fact 60 (f := .noat "Program" "variables") rfl),
    n_Program_line_depths := He.noat_ok (c.fact 61 (f := .noat "Program" "line_depths") rfl),
    n_Program_parents := He.noat_ok (c.fact 62 (f := .noat "Program" "parents") rfl),
    n_Program_scope_depths := He.noat_ok (c.fact 63 (f := .noat "Program" "scope_depths") rfl),
    n_Program_loops := He.noat_ok (c.fact 64 (f := .noat "Program" "loops") rfl),
    n_Program_point_scopes := He.noat_ok (c.fact 65 (f := .noat "Program" "point_scopes") rfl),
    n_Program_depths := He.noat_ok (c.fact 66 (f := .noat "Program" "depths") rfl),
    n_Program_edges := He.noat_ok (c.fact 67 (f := .noat "Program" "edges") rfl),
    n_Program_followers := He.noat_ok (c.fact 68 (f := .noat "Program" "followers") rfl),
    n_Program_sites := He.noat_ok (c.fact 69 (f := .noat "Program" "sites") rfl),
    n_Program_site_scopes := He.noat_ok (c.fact 70 (f := .noat "Program" "site_scopes") rfl),
    f_Program_init := He.ma K (He.ga K "Program") "__init__",
    d_Program_init := (x_Program_init c).choose,
    Program_init := (x_Program_init c).choose_spec,
    f_Program_text := He.ma K (He.ga K "Program") "text",
    d_Program_text := (x_Program_text c).choose,
    Program_text := (x_Program_text c).choose_spec,
    f_Program_scopes_around := He.ma K (He.ga K "Program") "scopes_around",
    d_Program_scopes_around := (x_Program_scopes_around c).choose,
    Program_scopes_around := (x_Program_scopes_around c).choose_spec,
    C_ScopeError := He.ga K "ScopeError",
    g_ScopeError := He.glo_ok X G (c.fact 73 (f := .glo "ScopeError") rfl),
    C_TooLong := He.ga K "TooLong",
    g_TooLong := He.glo_ok X G (c.fact 74 (f := .glo "TooLong") rfl),
    x_TooLong := (He.exc_ok (c.fact 75 (f := .exc "TooLong") rfl)).1,
    kp_TooLong := (He.exc_ok (c.fact 75 (f := .exc "TooLong") rfl)).2.1,
    b_TooLong := (He.exc_ok (c.fact 75 (f := .exc "TooLong") rfl)).2.2.1,
    t_TooLong := (He.exc_ok (c.fact 75 (f := .exc "TooLong") rfl)).2.2.2,
    ec_TooLong := (exE_ok (ex_E_TooLong e.more)).1,
    is_TooLong := (exE_ok (ex_E_TooLong e.more)).2,
    m_TooLong_TooLong := He.exm_ok (c.fact 76 (f := .exm "TooLong" "TooLong" true) rfl),
    C_BadProgram := He.ga K "BadProgram",
    g_BadProgram := He.glo_ok X G (c.fact 79 (f := .glo "BadProgram") rfl),
    ox_BadProgram := (oexB_ok (kx_ox e.more)),
    ec_BadProgram := (exE_ok (kx_E e.more)).1,
    xf_BadProgram := xfB_ok (kx_xf e.more),
    b_BadProgram := (oexB_ok (kx_ox e.more)).exC,
    t_BadProgram := (oexB_ok (kx_ox e.more)).tyC,
    z_ValueError := He.free_ok X G (c.fact 78 (f := .free "ValueError") rfl),
    na_BadProgram_line := He.noat_ok (c.fact 80 (f := .noat "BadProgram" "line") rfl),
    na_BadProgram_reason := He.noat_ok (c.fact 81 (f := .noat "BadProgram" "reason") rfl),
    m_BadProgram := He.exm_ok (c.fact 83 (f := .exm "BadProgram" "BadProgram" true) rfl),
    is_BadProgram := (exE_ok (kx_E e.more)).2,
    iv_BadProgram := of_decide_eq_true (kx_iv e.more),
    m_TooLong_BadProgram := He.exm_ok (c.fact 84 (f := .exm "TooLong" "BadProgram" false) rfl),
    f_BadProgram_init := He.ma K (He.ga K "BadProgram") "__init__",
    d_BadProgram_init := (kx_fn X G e0).choose,
    c_BadProgram_init := (kx_fn X G e0).choose_spec.choose,
    cc_BadProgram := (kx_fn X G e0).choose_spec.choose_spec.choose,
    su_BadProgram := (kx_fn X G e0).choose_spec.choose_spec.choose_spec.1,
    i_BadProgram_init := (He.meth_ok (c.fact 82 (f := .meth "BadProgram" "__init__") rfl)).at_,
    ti_BadProgram_init := beq_iff_eq.mp (He.meth_ok (c.fact 82 (f := .meth "BadProgram" "__init__") rfl)).fn,
    bi_BadProgram_init := (kx_fn X G e0).choose_spec.choose_spec.choose_spec.2,
    a_BEGINNERS := He.ga K "BEGINNERS",
    k_BEGINNERS := He.glo_ok X G (c.fact 85 (f := .glo "BEGINNERS") rfl),
    t_BEGINNERS := fun H => He.tupB_ok (ex_BEGINNERS e.more) H,
    a_ENDERS := He.ga K "ENDERS",
    k_ENDERS := He.glo_ok X G (c.fact 86 (f := .glo "ENDERS") rfl),
    t_ENDERS := fun H => He.tupB_ok (ex_ENDERS e.more) H,
    a_SCOPE_LINES := He.ga K "SCOPE_LINES",
    e_SCOPE_LINES := (e.t.tab 0 rfl).choose,
    z_SCOPE_LINES := (e.t.tab 0 rfl).choose_spec.choose,
    k_SCOPE_LINES := He.glo_ok X G (c.fact 87 (f := .glo "SCOPE_LINES") rfl),
    t_SCOPE_LINES := (e.t.tab 0 rfl).choose_spec.choose_spec,
    v0_SCOPE_LINES := ledA_ok (ex_v0 e.more),
    v1_SCOPE_LINES := ledA_ok (ex_v1 e.more),
    v2_SCOPE_LINES := ledA_ok (ex_v2 e.more),
    v3_SCOPE_LINES := ledA_ok (ex_v3 e.more),
    v4_SCOPE_LINES := ledA_ok (ex_v4 e.more),
    k_DIGITS := He.str_ok X G (c.fact 88 (f := .str "DIGITS" "0123456789") rfl),
    k_MOST_DIGITS := He.int_ok X G (c.fact 89 (f := .int "MOST_DIGITS" 3) rfl),
    k_MOST_CHARACTERS := He.int_ok X G (c.fact 90 (f := .int "MOST_CHARACTERS" 4000) rfl),
    k_MOST_LINES := He.int_ok X G (c.fact 91 (f := .int "MOST_LINES" 80) rfl),
    k_MOST_DEPTH := He.int_ok X G (c.fact 92 (f := .int "MOST_DEPTH" 5) rfl),
    k_MOST_VARIABLES := He.int_ok X G (c.fact 93 (f := .int "MOST_VARIABLES" 6) rfl)
  }
end
end Kp
end
section
set_option Elab.async false
set_option linter.all false
set_option maxRecDepth 100000
set_option maxHeartbeats 4000000
namespace Kp
open PySem L2
section
variable {P : Program} {w : World} {K : PySem.W.Frag} {mg : Str → Option Value} {base : Heap}
/-- r: it may draw anew; else something is left of the last cell -/
def spTake (r : Bool) : Sp := fun vs H Q _ => ∃ (p C : Addr) (m : Int), vs = [.ref p, .int m] ∧ Pool H p C ∧ 0 < m ∧ m < 1073741824 ∧
  (r = false → ∃ C i c z, H p = some (.lst [.ref C, .int i, .int c, .int z]) ∧ 0 < c) ∧ ∀ (d : Int) (H' : Hp), But [p] H H' → Pool H' p C → 0 ≤ d → d < m → Q (.int d) H'
theorem scN_take : FnScope ["pool", "many", "digit", "cell", "mixed"] ["pool", "many"] (defScope s_L_take) := ⟨rfl, rfl, rfl, by decide +kernel, rfl, by decide +kernel, by decide +kernel⟩
theorem pool_set {H : Hp} {p C : Addr} {ns : List Int} {i c z : Int} (h : H p = some (.lst [.ref C, .int i, .int c, .int z])) (h2 : H C = some (.lst (ns.map V.int))) {xs : List V} : (upd H p (.lst xs)) C = some (.lst (ns.map V.int)) := by
  have n : C ≠ p := ne_of h2 h (by
    intro e
    injection e with e
    cases ns with
    | nil => cases e
    | cons a r => cases e)
  rw [upd_ne n]; exact h2
/-- what is left of the last cell gives a digit -/
theorem ok_take1 (T : Tx K w mg) : FnOk P w K mg base CX0 1 T.f_L_take T.d_L_take ["pool", "many"] (spTake false) := by
  refine T.L_take.F.ok scN_take (fun vs H Q E h => ?_) (fun cdv A outer s H vs Q E hr h => ?_)
  · obtain ⟨p, C, m, rfl, _⟩ := h
    rfl
  · obtain ⟨p, C, m, rfl, ⟨ns, i, c, z, h1, h2, hi, hc, hz, hz2, hns⟩, hm, hm2, hpos, q⟩ := h
    obtain ⟨C', i', c', z', h1', hc0⟩ := hpos rfl
    have e0 := Option.some.inj (h1.symm.trans h1')
    injection e0 with e0
    have ec : c = c' := by injection e0 with _ e0; injection e0 with _ e0; injection e0 with e0 _; exact V.int.inj e0
    subst ec
    refine ⟨_, pss_cons (ps_if (pt_cmpR op_gt (pe_ix ix_list (pv 0) pe_int (fun _ _ => rfl)) pe_int (nomark _))
      (pss_cons (ps_set (i := 2) scN_take.nd rfl (.inl rfl) (pe_op op_mod (pe_callTy call_int1 (by rfl) T.B.int (by decide +kernel) (pa_cons (pe_ix ix_list (pv 0) pe_int (fun _ _ => rfl)) pa_nil)) (pv 1)))
      (pss_cons (ps_asg (pe_op op_fdiv (pe_ix ix_list (pv 0) pe_int (fun _ _ => rfl)) (pv 1)) (pg_sub (pv 0) pe_int set_list)) (pss_one (ps_ret (pv 2))))) pss_nil) pss_never, ?_⟩
    refine ⟨_, rfl, p, _, 2, .int c, rfl, rfl, SqL.of h1, atI_nat (j := 2) rfl, _, _, rfl, rfl, _, rfl, ?_⟩
    rw [show decide ((0 : Int) < c) = true from decide_eq_true hc0]
    refine iteT ?_
    refine ⟨_, rfl, p, _, 2, .int c, rfl, rfl, SqL.of h1, atI_nat (j := 2) rfl, .inl ⟨_, rfl, _, rfl, _, _, rfl, rfl, hm, ?_⟩⟩
    refine ⟨_, rfl, p, _, 2, .int c, rfl, rfl, SqL.of h1, atI_nat (j := 2) rfl, _, rfl, _, _, rfl, rfl, ⟨hm, hm2⟩, _, rfl, p, _, 2, 2, rfl, rfl, h1, rfl, ?_⟩
    refine ⟨_, rfl, q _ _ (But.upd (by simp) _) ⟨ns, i, c / m, z, upd_same, pool_set h1 h2, hi, Int.ediv_nonneg hc (Int.le_of_lt hm), hz, hz2, hns⟩ (Int.emod_nonneg _ (by omega)) (Int.emod_lt_of_pos _ hm)⟩
theorem ok_take (T : Tx K w mg) : FnOk P w K mg base CX0 2 T.f_L_take T.d_L_take ["pool", "many"] (spTake true) := by
  have G := ok_take1 (P := P) (base := base) T
  refine T.L_take.F.ok scN_take (fun vs H Q E h => ?_) (fun cdv A outer s H vs Q E hr h => ?_)
  · obtain ⟨p, C, m, rfl, _⟩ := h
    rfl
  · obtain ⟨p, C, m, rfl, ⟨ns, i, c, z, h1, h2, hi, hc, hz, hz2, hns⟩, hm, hm2, _, q⟩ := h
    refine ⟨_, pss_cons (ps_if (pt_cmpR op_gt (pe_ix ix_list (pv 0) pe_int (fun _ _ => rfl)) pe_int (nomark _))
      (pss_cons (ps_set (i := 2) scN_take.nd rfl (.inl rfl) (pe_op op_mod (pe_callTy call_int1 (by rfl) T.B.int (by decide +kernel) (pa_cons (pe_ix ix_list (pv 0) pe_int (fun _ _ => rfl)) pa_nil)) (pv 1)))
      (pss_cons (ps_asg (pe_op op_fdiv (pe_ix ix_list (pv 0) pe_int (fun _ _ => rfl)) (pv 1)) (pg_sub (pv 0) pe_int set_list)) (pss_one (ps_ret (pv 2))))) pss_nil)
      (pss_cons (ps_set (i := 3) scN_take.nd rfl (.inl rfl) pe_int)
      (Evl.pss_cut (ps_if (pt_cmpR op_lt (pe_ix ix_list (pv 0) pe_int (fun _ _ => rfl)) (pe_callB call_len_seq (by rfl) T.B.len PySem.boot_len (pa_cons (pe_ix ix_list (pv 0) pe_int (fun _ _ => rfl)) pa_nil)) (nomark _))
        (pss_one (ps_set (i := 3) scN_take.nd rfl (.inl rfl) (pe_ix ix_list (pe_ix ix_list (pv 0) pe_int (fun _ _ => rfl)) (pe_ix ix_list (pv 0) pe_int (fun _ _ => rfl)) (fun _ _ => rfl)))) pss_nil)
      (pss_cons (ps_asg (pe_op op_add (pe_ix ix_list (pv 0) pe_int (fun _ _ => rfl)) pe_int) (pg_sub (pv 0) pe_int set_list))
      (pss_cons (ps_if (pt_cmpR op_ge (pv 3) (pe_op op_pow pe_int pe_int) (nomark _))
        (pss_cons (ps_asg (pe_op op_fdiv (pv 3) pe_int) (pg_sub (pv 0) pe_int set_list)) (pss_one (ps_ret (pe_call G hr (by rfl) T.L_take.g T.L_take.F.kp T.L_take.b .nil pass0 (pa_cons (pv 0) (pa_cons (pv 1) pa_nil)))))) pss_nil)
      (pss_cons (ps_asg (pe_op op_mod (pe_callTy call_int1 (by rfl) T.B.int (by decide +kernel) (pa_cons (pe_op op_add (pe_op op_add (pe_op op_mul (pe_ix ix_list (pv 0) pe_int (fun _ _ => rfl)) pe_int) (pe_op op_mul (pv 3) pe_int)) (pe_op op_mul (pe_ix ix_list (pv 0) pe_int (fun _ _ => rfl)) pe_int)) pa_nil)) pe_int) (pg_sub (pv 0) pe_int set_list))
      (pss_cons (ps_set (i := 4) scN_take.nd rfl (.inl rfl) (pe_op op_mod (pe_callTy call_int1 (by rfl) T.B.int (by decide +kernel) (pa_cons (pe_op op_add (pe_op op_add (pe_op op_mul (pe_ix ix_list (pv 0) pe_int (fun _ _ => rfl)) (pe_ix ix_list (pv 0) pe_int (fun _ _ => rfl))) (pe_op op_mul (pe_ix ix_list (pv 0) pe_int (fun _ _ => rfl)) pe_int)) pe_int) pa_nil)) pe_int))
      (pss_one (ps_ret (pe_op op_mod (pe_callTy call_int1 (by rfl) T.B.int (by decide +kernel) (pa_cons (pe_op op_fdiv (pv 4) pe_int) pa_nil)) (pv 1)))))))))), ?_⟩
    refine ⟨_, rfl, p, _, 2, .int c, rfl, rfl, SqL.of h1, atI_nat (j := 2) rfl, _, _, rfl, rfl, _, rfl, ?_⟩
    refine ite2 (fun hc0 => ?_) (fun _ => ?_)
    · refine ⟨_, rfl, p, _, 2, .int c, rfl, rfl, SqL.of h1, atI_nat (j := 2) rfl, .inl ⟨_, rfl, _, rfl, _, _, rfl, rfl, hm, ?_⟩⟩
      refine ⟨_, rfl, p, _, 2, .int c, rfl, rfl, SqL.of h1, atI_nat (j := 2) rfl, _, rfl, _, _, rfl, rfl, ⟨hm, hm2⟩, _, rfl, p, _, 2, 2, rfl, rfl, h1, rfl, ?_⟩
      refine ⟨_, rfl, q _ _ (But.upd (by simp) _) ⟨ns, i, c / m, z, upd_same, pool_set h1 h2, hi, Int.ediv_nonneg hc (Int.le_of_lt hm), hz, hz2, hns⟩ (Int.emod_nonneg _ (by omega)) (Int.emod_lt_of_pos _ hm)⟩
    · -- cell = 0; if pool[1] < len(pool[0]): cell = pool[0][pool[1]]
      refine ⟨fun σ' H' => ∃ cell : Int, 0 ≤ cell ∧ σ' = [some (.ref p), some (.int m), none, some (.int cell), none] ∧ H' = H, ?_, ?_⟩
      · refine ⟨_, rfl, p, _, 1, .int i, rfl, rfl, SqL.of h1, atI_nat (j := 1) rfl, _, rfl, p, _, 0, .ref C, rfl, rfl, SqL.of h1, atI_nat (j := 0) rfl, C, _, rfl, .inl (SqL.of h2), _, _, rfl, rfl, _, rfl, ?_⟩
        refine ite2 (fun hlt => ?_) (fun _ => ⟨0, by decide, rfl, rfl⟩)
        have hlt' : i < ((ns.map V.int).length : Int) := of_decide_eq_true hlt
        rw [List.length_map] at hlt'
        have hj : i.toNat < ns.length := by omega
        refine ⟨_, rfl, p, _, 0, .ref C, rfl, rfl, SqL.of h1, atI_nat (j := 0) rfl, _, rfl, p, _, 1, .int i, rfl, rfl, SqL.of h1, atI_nat (j := 1) rfl, C, _, _, .int ns[i.toNat], rfl, rfl, SqL.of h2,
          at_of (j := i.toNat) (by omega) (by rw [List.getElem?_map, List.getElem?_eq_getElem hj]; rfl), ?_⟩
        exact ⟨_, hns _ (List.getElem_mem hj), rfl, rfl⟩
      · rintro σ' H' ⟨cell, hcell, rfl, rfl⟩
        -- pool[1] = pool[1] + 1
        refine ⟨_, rfl, p, _, 1, .int i, rfl, rfl, SqL.of h1, atI_nat (j := 1) rfl, _, _, rfl, rfl, _, rfl, p, _, 1, 1, rfl, rfl, h1, rfl, ?_⟩
        have g2 : (upd H' p (.lst [.ref C, .int (i + 1), .int c, .int z])) C = some (.lst (ns.map V.int)) := pool_set h1 h2
        have g1 : (upd H' p (.lst [.ref C, .int (i + 1), .int c, .int z])) p = some (.lst [.ref C, .int (i + 1), .int c, .int z]) := upd_same
        have b1 : But [p] H' (upd H' p (.lst [.ref C, .int (i + 1), .int c, .int z])) := But.upd (by simp) _
        refine ⟨_, rfl, _, _, rfl, rfl, ⟨by decide, by decide, by decide⟩, _, _, rfl, rfl, _, rfl, ?_⟩
        have e18 : (10 : Int) ^ ((18 : Int).toNat) = 1000000000000000000 := by decide
        refine ite2 (fun hbig => ?_) (fun _ => ?_)
        · have hb : (10 : Int) ^ ((18 : Int).toNat) ≤ cell := of_decide_eq_true hbig
          rw [e18] at hb
          refine ⟨_, rfl, _, _, rfl, rfl, ⟨by decide, by decide⟩, _, rfl, p, _, 2, 2, rfl, rfl, g1, rfl, ?_⟩
          have g3 : (upd (upd H' p (.lst [.ref C, .int (i + 1), .int c, .int z])) p (.lst [.ref C, .int (i + 1), .int (cell / 2), .int z])) C = some (.lst (ns.map V.int)) := pool_set g1 g2
          have b2 : But [p] H' (upd (upd H' p (.lst [.ref C, .int (i + 1), .int c, .int z])) p (.lst [.ref C, .int (i + 1), .int (cell / 2), .int z])) := b1.trans (But.upd (by simp) _)
          refine ⟨_, rfl, _, rfl, p, C, m, rfl, ⟨ns, i + 1, cell / 2, z, upd_same, g3, by omega, by omega, hz, hz2, hns⟩, hm, hm2, fun _ => ⟨C, i + 1, cell / 2, z, upd_same, by omega⟩, fun d H2 b3 P3 d0 d1 => ?_⟩
          exact q d H2 (b2.trans b3) P3 d0 d1
        · -- pool[3] = int(..) % 2147483647
          refine ⟨_, rfl, p, _, 3, .int z, rfl, rfl, SqL.of g1, atI_nat (j := 3) rfl, _, _, rfl, rfl, .inr ⟨by decide, by decide⟩, _, rfl, _, _, rfl, rfl, .inr ⟨by decide, by decide⟩, _, _, rfl, rfl,
            _, rfl, p, _, 1, .int (i + 1), rfl, rfl, SqL.of g1, atI_nat (j := 1) rfl, _, _, rfl, rfl, .inr ⟨by decide, by decide⟩, _, _, rfl, rfl, .inl ⟨_, rfl, _, _, rfl, rfl, (by show (0 : Int) < 2147483647; decide), _, rfl, p, _, 3, 3, rfl, rfl, g1, rfl, ?_⟩⟩
          have z0 : 0 ≤ ((z * 48271 + cell * 69621 + (i + 1) * 613) % 2147483647) :=  Int.emod_nonneg _ (by decide)
          have z1 : ((z * 48271 + cell * 69621 + (i + 1) * 613) % 2147483647) < 2147483647 :=  Int.emod_lt_of_pos _ (by decide)
          have g3 : (upd (upd H' p (.lst [.ref C, .int (i + 1), .int c, .int z])) p (.lst [.ref C, .int (i + 1), .int c, .int ((z * 48271 + cell * 69621 + (i + 1) * 613) % 2147483647)])) C = some (.lst (ns.map V.int)) := pool_set g1 g2
          have g4 : (upd (upd H' p (.lst [.ref C, .int (i + 1), .int c, .int z])) p (.lst [.ref C, .int (i + 1), .int c, .int ((z * 48271 + cell * 69621 + (i + 1) * 613) % 2147483647)])) p = some (.lst [.ref C, .int (i + 1), .int c, .int ((z * 48271 + cell * 69621 + (i + 1) * 613) % 2147483647)]) := upd_same
          have b2 : But [p] H' (upd (upd H' p (.lst [.ref C, .int (i + 1), .int c, .int z])) p (.lst [.ref C, .int (i + 1), .int c, .int ((z * 48271 + cell * 69621 + (i + 1) * 613) % 2147483647)])) := b1.trans (But.upd (by simp) _)
          refine ⟨_, rfl, p, _, 3, .int ((z * 48271 + cell * 69621 + (i + 1) * 613) % 2147483647), rfl, rfl, SqL.of g4, atI_nat (j := 3) rfl, _, rfl, p, _, 3, .int ((z * 48271 + cell * 69621 + (i + 1) * 613) % 2147483647), rfl, rfl, SqL.of g4, atI_nat (j := 3) rfl, _, _, rfl, rfl, .inl ⟨by omega, by omega⟩,
            _, rfl, p, _, 3, .int ((z * 48271 + cell * 69621 + (i + 1) * 613) % 2147483647), rfl, rfl, SqL.of g4, atI_nat (j := 3) rfl, _, _, rfl, rfl, .inr ⟨by decide, by decide⟩, _, _, rfl, rfl, _, _, rfl, rfl, .inl ⟨_, rfl, _, _, rfl, rfl, (by show (0 : Int) < 1000000007; decide), ?_⟩⟩
          refine ⟨_, rfl, _, _, rfl, rfl, ⟨by decide, by decide⟩, .inl ⟨_, rfl, _, rfl, _, _, rfl, rfl, hm, ?_⟩⟩
          exact q _ _ b2 ⟨ns, i + 1, c, ((z * 48271 + cell * 69621 + (i + 1) * 613) % 2147483647), g4, g3, by omega, hc, z0, z1, hns⟩ (Int.emod_nonneg _ (by omega)) (Int.emod_lt_of_pos _ hm)
end
end Kp
end
section
set_option Elab.async false
set_option linter.all false
set_option maxRecDepth 100000
set_option maxHeartbeats 4000000
namespace Kp
open PySem L2
/-! ### texts -/
def ch (c : Nat) : Str := ⟨#[c]⟩
def num_ (n : Nat) : Str := Str.ofString (toString (n : Int))
end Kp
namespace Ka
open PySem Kp
def Ln.txt : Ln → Str
  | .num x n => (ch x ++ (" = " : Str)) ++ num_ n
  | .copy x y => (ch x ++ (" = " : Str)) ++ ch y
  | .pair x y z => ((((ch x ++ (" = [" : Str)) ++ ch y) ++ (", " : Str)) ++ ch z) ++ ("]" : Str)
  | .hd x y => (((ch x ++ (" = " : Str)) ++ ch y) ++ ("." : Str)) ++ ("head" : Str)
  | .tl x y => (((ch x ++ (" = " : Str)) ++ ch y) ++ ("." : Str)) ++ ("tail" : Str)
  | .prt x => ("print " : Str) ++ ch x
def Ln.told : Ln → List PyData
  | .num x n => [.str "number", .str (ch x), .int n]
  | .copy x y => [.str "copy", .str (ch x), .str (ch y)]
  | .pair x y z => [.str "pair", .str (ch x), .str (ch y), .str (ch z)]
  | .hd x y => [.str "head", .str (ch x), .str (ch y)]
  | .tl x y => [.str "tail", .str (ch x), .str (ch y)]
  | .prt x => [.str "print", .str (ch x)]
/-- the letters of a line lie in lo .. lo + 5, its number below 1000 -/
def Ln.ok (lo : Nat) : Ln → Prop
  | .num x n => (lo ≤ x ∧ x < lo + 6) ∧ n < 1000
  | .copy x y => (lo ≤ x ∧ x < lo + 6) ∧ (lo ≤ y ∧ y < lo + 6)
  | .pair x y z => (lo ≤ x ∧ x < lo + 6) ∧ (lo ≤ y ∧ y < lo + 6) ∧ (lo ≤ z ∧ z < lo + 6)
  | .hd x y => (lo ≤ x ∧ x < lo + 6) ∧ (lo ≤ y ∧ y < lo + 6)
  | .tl x y => (lo ≤ x ∧ x < lo + 6) ∧ (lo ≤ y ∧ y < lo + 6)
  | .prt x => lo ≤ x ∧ x < lo + 6
def Tree.okT (lo : Nat) : Tree → Prop
  | .nil => True
  | .ln l r => l.ok lo ∧ r.okT lo
  | .blk _ b r => b.okT lo ∧ r.okT lo
  | .br a b r => a.okT lo ∧ b.okT lo ∧ r.okT lo
end Ka
namespace Kp
open PySem L2 Ka
theorem len_app (a b : Str) : (a ++ b).length = a.length + b.length := by
  show (a.cps ++ b.cps).size = a.cps.size + b.cps.size
  exact Array.size_append
theorem len_ch (c : Nat) : (ch c).length = 1 := rfl
theorem cps_app (a b : Str) : (a ++ b).cps.toList = a.cps.toList ++ b.cps.toList := by
  show (a.cps ++ b.cps).toList = _
  exact Array.toList_append
theorem num_len : ∀ n, n < 1000 → (num_ n).length ≤ 3 := by
  intro n h
  have : ∀ n : Fin 1000, (num_ n.val).length ≤ 3 := by decide +kernel
  exact this ⟨n, h⟩
theorem small30 {n : Nat} (h : n ≤ 1000) : n ≤ sizeLine := Nat.le_of_lt (small1000 h)
theorem at_nn {α : Type} {xs : List α} {z : Int} {v : α} (h0 : 0 ≤ z) (h : xs[z.toNat]? = some v) : atI xs z = some v := by
  have q := atI_nat h
  rwa [show ((z.toNat : Nat) : Int) = z by omega] at q
/-! ### the box: the letters, and how many lines are left -/
structure Let (S : Str) (lo : Nat) : Prop where
  one : 1 ≤ S.length
  six : S.length ≤ 6
  low : 97 ≤ lo
  high : lo + 6 ≤ 123
  all : ∀ c ∈ S.cps.toList, lo ≤ c ∧ c < lo + 6
abbrev kL : Key := .inr ("letters" : Str)
abbrev kF : Key := .inr ("left" : Str)
def boxK (S : Str) (left : Int) : List (Key × V) := [(kL, .str S), (kF, .int left)]
def Box (H : Hp) (b : Addr) (S : Str) (left : Int) : Prop := H b = some (.dK (boxK S left))
theorem key_ne' : ¬ (kL = kF) := by decide +kernel
theorem box_letters (S : Str) (n : Int) : valV (boxK S n) kL = some (.str S) := by
  unfold valV boxK
  rw [List.find?_cons_of_pos (by exact decide_eq_true rfl)]; rfl
theorem box_left (S : Str) (n : Int) : valV (boxK S n) kF = some (.int n) := by
  unfold valV boxK
  rw [List.find?_cons_of_neg (by simp only [decide_eq_true_eq]; exact key_ne'), List.find?_cons_of_pos (by exact decide_eq_true rfl)]; rfl
theorem box_put (S : Str) (n m : Int) : putK (boxK S n) kF (.int m) = boxK S m := by
  unfold putK boxK
  rw [if_pos (by simp), List.map_cons, List.map_cons, if_neg (show ¬ (kL = kF) from key_ne'), if_pos (show kF = kF from rfl)]; rfl
section
variable {P : Program} {w : World} {K : PySem.W.Frag} {mg : Str → Option Value} {base : Heap}
def spVar : Sp := fun vs H Q _ => ∃ (p C b : Addr) (S : Str) (left : Int) (lo : Nat), vs = [.ref p, .ref b] ∧ Pool H p C ∧ Box H b S left ∧ Let S lo ∧
  ∀ (c : Nat) (H' : Hp), But [p] H H' → Pool H' p C → lo ≤ c → c < lo + 6 → Q (.str (ch c)) H'
theorem box_ne {H : Hp} {p C b : Addr} {S : Str} {n : Int} (h : Pool H p C) (h2 : Box H b S n) : b ≠ p := by
  obtain ⟨ns, i, c, z, h, _⟩ := h
  exact ne_of h2 h (by intro e; cases e)
theorem Box.but {H H' : Hp} {p C b : Addr} {S : Str} {n : Int} (h2 : Box H b S n) (h : Pool H p C) (e : But [p] H H') : Box H' b S n := e b _ h2 (by simp [box_ne h h2])
end
end Kp
end
section
set_option Elab.async false
set_option linter.all false
set_option maxRecDepth 100000
set_option maxHeartbeats 4000000
namespace Kp
open PySem L2

open Ka
def toldV : Ln → List V
  | .num x n => [.str "number", .str (ch x), .int n]
  | .copy x y => [.str "copy", .str (ch x), .str (ch y)]
  | .pair x y z => [.str "pair", .str (ch x), .str (ch y), .str (ch z)]
  | .hd x y => [.str "head", .str (ch x), .str (ch y)]
  | .tl x y => [.str "tail", .str (ch x), .str (ch y)]
  | .prt x => [.str "print", .str (ch x)]
theorem e1 : (" = " : Str).length = 3 := by decide +kernel
theorem e2 : (" = [" : Str).length = 4 := by decide +kernel
theorem e3 : (", " : Str).length = 2 := by decide +kernel
theorem e4 : ("]" : Str).length = 1 := by decide +kernel
theorem e5 : ("." : Str).length = 1 := by decide +kernel
theorem e6 : ("head" : Str).length = 4 := by decide +kernel
theorem e7 : ("tail" : Str).length = 4 := by decide +kernel
theorem e8 : ("print " : Str).length = 6 := by decide +kernel
/-- a line as the law builds it stands at a -/
def LnAt (H : Hp) (a t : Addr) (l : Ln) : Prop := H a = some (.tup [.str l.txt, .ref t]) ∧ H t = some (.tup (toldV l))
section
variable {P : Program} {w : World} {K : PySem.W.Frag} {mg : Str → Option Value} {base : Heap}
def spPlain : Sp := fun vs H Q _ => ∃ (p C b : Addr) (S : Str) (left : Int) (lo : Nat), vs = [.ref p, .ref b] ∧ Pool H p C ∧ Box H b S left ∧ Let S lo ∧
  ∀ (l : Ln) (a t : Addr) (H' : Hp), But [p] H H' → Pool H' p C → l.ok lo → H a = none → H t = none → LnAt H' a t l → Q (.ref a) H'
end
end Kp
end
section
set_option Elab.async false
set_option linter.all false
set_option maxRecDepth 100000
set_option maxHeartbeats 4000000
namespace Kp
open PySem L2

open Ka
section
variable {P : Program} {w : World} {K : PySem.W.Frag} {mg : Str → Option Value} {base : Heap}
abbrev abc : Str := "abcdefghijklmnopqrstuvwxyz"
def okCut (S : Str) (lo : Nat) : Bool := decide (1 ≤ S.length) && decide (S.length ≤ 6) && S.cps.toList.all fun c => decide (lo ≤ c) && decide (c < lo + 6)
theorem cut_let (a t : Int) (ha : 0 ≤ a) (ha2 : a < 21) (ht : 0 ≤ t) (ht2 : t < 6) : Let (cutS abc (some a) (some (a + 1 + t))) (97 + a.toNat) := by
  have all : ∀ a : Fin 21, ∀ t : Fin 6, okCut (cutS abc (some (a.val : Int)) (some ((a.val : Int) + 1 + (t.val : Int)))) (97 + a.val) = true := by decide +kernel
  have q := all ⟨a.toNat, by omega⟩ ⟨t.toNat, by omega⟩
  simp only [show ((a.toNat : Nat) : Int) = a by omega, show ((t.toNat : Nat) : Int) = t by omega] at q
  unfold okCut at q
  simp only [Bool.and_eq_true, decide_eq_true_eq, List.all_eq_true] at q
  exact ⟨q.1.1, q.1.2, by omega, by omega, fun c hc => q.2 c hc⟩
def spBox : Sp := fun vs H Q _ => ∃ (p C : Addr) (most : Int), vs = [.ref p, .int most] ∧ Pool H p C ∧ 0 ≤ most ∧ most < 1000 ∧
  ∀ (b : Addr) (S : Str) (lo : Nat) (left : Int) (H' : Hp), But [p] H H' → Pool H' p C → H b = none → Box H' b S left → Let S lo → 0 ≤ left → left ≤ most → Q (.ref b) H'
end
end Kp
end
section
set_option Elab.async false
set_option linter.all false
set_option maxRecDepth 100000
set_option maxHeartbeats 4000000
namespace Kp
open PySem L2

open Ka
theorem But.free' {ms : List Addr} {H H' : Hp} (e : But ms H H') (t : ∀ m, m ∈ ms → ∃ o, H' m = some o) {l : Addr} (h : H' l = none) : H l = none :=
  e.free h fun m => by obtain ⟨o, q⟩ := t l m; rw [q] at h; cases h
def wStr (w : Bool) : Str := if w then "while" else "block"
/-- the list's items are the parts of a tree, all of them at addresses of N -/
inductive HasT (N : Addr → Prop) (H : Hp) : List V → Ka.Tree → Prop where
  | nil : HasT N H [] .nil
  | ln {a t : Addr} {l : Ln} {xs : List V} {r : Ka.Tree} : N a → N t → LnAt H a t l → HasT N H xs r → HasT N H (.ref a :: xs) (.ln l r)
  | blk {a c : Addr} {w : Bool} {ys xs : List V} {b r : Ka.Tree} : N a → N c → H a = some (.tup [.str (wStr w), .ref c]) → H c = some (.lst ys) → HasT N H ys b → HasT N H xs r → HasT N H (.ref a :: xs) (.blk w b r)
  | br {a c d : Addr} {ys zs xs : List V} {u v r : Ka.Tree} : N a → N c → N d → H a = some (.tup [.str "if", .ref c, .ref d]) → H c = some (.lst ys) → H d = some (.lst zs) → HasT N H ys u → HasT N H zs v → HasT N H xs r → HasT N H (.ref a :: xs) (.br u v r)
theorem HasT.mono {N N' : Addr → Prop} {H H' : Hp} {xs : List V} {T : Ka.Tree} (h : HasT N H xs T) (k : ∀ b o, N b → H b = some o → H' b = some o) (n : ∀ b, N b → N' b) : HasT N' H' xs T := by
  induction h with
  | nil => exact .nil
  | ln ha ht hl _ ih => exact .ln (n _ ha) (n _ ht) ⟨k _ _ ha hl.1, k _ _ ht hl.2⟩ ih
  | blk ha hc h1 h2 _ _ ih1 ih2 => exact .blk (n _ ha) (n _ hc) (k _ _ ha h1) (k _ _ hc h2) ih1 ih2
  | br ha hc hd h1 h2 h3 _ _ _ ih1 ih2 ih3 => exact .br (n _ ha) (n _ hc) (n _ hd) (k _ _ ha h1) (k _ _ hc h2) (k _ _ hd h3) ih1 ih2 ih3
theorem HasT.app {N : Addr → Prop} {H : Hp} {xs ys : List V} {T U : Ka.Tree} (h : HasT N H xs T) (g : HasT N H ys U) : HasT N H (xs ++ ys) (T.app U) := by
  induction h with
  | nil => exact g
  | ln ha ht hl _ ih => exact .ln ha ht hl ih
  | blk ha hc h1 h2 h3 _ _ ih2 => exact .blk ha hc h1 h2 h3 ih2
  | br ha hc hd h1 h2 h3 h4 h5 _ _ _ ih3 => exact .br ha hc hd h1 h2 h3 h4 h5 ih3
theorem app_len (T U : Ka.Tree) : (T.app U).len = T.len + U.len := by
  induction T with
  | nil => simp [Ka.Tree.app, Ka.Tree.len]
  | ln l r ih => simp only [Ka.Tree.app, Ka.Tree.len, ih]; omega
  | blk w b r _ ih => simp only [Ka.Tree.app, Ka.Tree.len, ih]; omega
  | br a b r _ _ ih => simp only [Ka.Tree.app, Ka.Tree.len, ih]; omega
theorem app_high (T U : Ka.Tree) : (T.app U).high = max T.high U.high := by
  induction T with
  | nil => simp [Ka.Tree.app, Ka.Tree.high]
  | ln l r ih => simp only [Ka.Tree.app, Ka.Tree.high, ih]
  | blk w b r _ ih => simp only [Ka.Tree.app, Ka.Tree.high, ih]; omega
  | br a b r _ _ ih => simp only [Ka.Tree.app, Ka.Tree.high, ih]; omega
theorem app_ok {lo : Nat} {T U : Ka.Tree} (h : T.okT lo) (g : U.okT lo) : (T.app U).okT lo := by
  induction T with
  | nil => exact g
  | ln l r ih => exact ⟨h.1, ih h.2⟩
  | blk w b r _ ih => exact ⟨h.1, ih h.2⟩
  | br a b r _ _ ih => exact ⟨h.1, h.2.1, ih h.2.2⟩
section
variable {P : Program} {w : World} {K : PySem.W.Frag} {mg : Str → Option Value} {base : Heap}
def spParts (n : Nat) : Sp := fun vs H Q _ => ∃ (p C b : Addr) (S : Str) (left depth : Int) (lo : Nat), vs = [.ref p, .ref b, .int depth] ∧ 1 ≤ n ∧ depth + n = 6 ∧ Pool H p C ∧ Box H b S left ∧ Let S lo ∧ 0 ≤ left ∧
  ∀ (q : Addr) (xs : List V) (T : Ka.Tree) (left' : Int) (H' : Hp), But [p, b] H H' → Pool H' p C → Box H' b S left' → H q = none → H' q = some (.lst xs) → HasT (fun c => H c = none) H' xs T → T.okT lo → T.high + 1 ≤ n → (T.len : Int) + left' = left → 0 ≤ left' → Q (.ref q) H'
theorem box_get {H : Hp} {b : Addr} {S : Str} {left : Int} (h : Box H b S left) : DGet H b (.str "left") (some (.int left)) := by
  have z := DGet.k (k := kF) h
  rw [box_left] at z
  exact z
theorem box_set {H : Hp} {b : Addr} {S : Str} {left : Int} (h : Box H b S left) (m : Int) : DPut H b (.str "left") (.int m) (upd H b (.dK (boxK S m))) := by
  have z := DPut.k (k := kF) (v := .int m) h (by show 2 < sizeLine; decide)
  rw [box_put] at z
  exact z
/-- what holds in the loop: H1 the heap with the new list at q -/
structure PLoop (p C b q : Addr) (S : Str) (lo n : Nat) (left : Int) (H1 H' : Hp) (i : Nat) (left' : Int) (xs : List V) (T : Ka.Tree) : Prop where
  but : But [p, b, q] H1 H'
  pool : Pool H' p C
  box : Box H' b S left'
  at_ : H' q = some (.lst xs)
  has : HasT (fun c => H1 c = none) H' xs T
  ok : T.okT lo
  high : T.high + 1 ≤ n
  len : (T.len : Int) + left' = left
  nn : 0 ≤ left'
  le : xs.length ≤ i
theorem PLoop.app {p C b q : Addr} {S : Str} {lo n : Nat} {left left' left2 : Int} {H1 H' H2 : Hp} {i : Nat} {xs : List V} {T U : Ka.Tree} {y : V} (h : PLoop p C b q S lo n left H1 H' i left' xs T) (hC : C ≠ q) (hp : p ≠ q) (hb : b ≠ q) (h1 : ∀ m, m ∈ [p, b, q] → ∃ o, H1 m = some o)
    (e : But [p, b] H' H2) (P2 : Pool H2 p C) (B2 : Box H2 b S left2) (hU : HasT (fun c => H' c = none) H2 [y] U) (ok : U.okT lo) (high : U.high + 1 ≤ n) (len : (U.len : Int) + left2 = left') (nn : 0 ≤ left2) :
    H2 q = some (.lst xs) ∧ PLoop p C b q S lo n left H1 (upd H2 q (.lst (xs ++ [y]))) (i + 1) left2 (xs ++ [y]) (T.app U) := by
  obtain ⟨b1, P1, B1, a1, t1, o1, g1, l1, n1, z1⟩ := h
  have hq2 : H2 q = some (.lst xs) := e _ _ a1 (by simp [hp.symm, hb.symm])
  have tr : ∀ m, m ∈ [p, b, q] → ∃ o, H' m = some o := fun m hm => by
    simp only [List.mem_cons, List.mem_singleton, List.not_mem_nil, or_false] at hm
    rcases hm with rfl | rfl | rfl
    · obtain ⟨_, _, _, _, h, _⟩ := P1; exact ⟨_, h⟩
    · exact ⟨_, B1⟩
    · exact ⟨_, a1⟩
  have bk : ∀ c, H' c = none → H1 c = none := fun c hc => b1.free' tr hc
  have hm1 : ∀ c, H1 c = none → c ∉ [p, b, q] := fun c hc z => by obtain ⟨o, ho⟩ := h1 c z; rw [ho] at hc; cases hc
  have hq1 : ∀ c, H1 c = none → c ≠ q := fun c hc z => hm1 c hc (by simp [z])
  refine ⟨hq2, ⟨fun c o hc hn => ?_, ?_, ?_, upd_same, ?_, app_ok o1 ok, by rw [app_high]; omega, by rw [app_len]; omega, nn, by rw [List.length_append, List.length_singleton]; omega⟩⟩
  · have hcq : c ≠ q := fun z => hn (by simp [z])
    rw [upd_ne hcq]
    exact e c o (b1 c o hc hn) fun z => hn (by simp only [List.mem_cons, List.not_mem_nil, or_false] at z ⊢; rcases z with z | z <;> simp [z])
  · obtain ⟨ns, i, c, z, h1, h2, h3⟩ := P2
    exact ⟨ns, i, c, z, by rw [upd_ne hp]; exact h1, by rw [upd_ne hC]; exact h2, h3⟩
  · show (upd _ _ _) b = _
    rw [upd_ne hb]; exact B2
  · refine HasT.app (t1.mono (fun c o hc ho => ?_) fun _ z => z) (hU.mono (fun c o hc ho => ?_) bk)
    · rw [upd_ne (hq1 c hc)]
      exact e c o ho fun z => hm1 c hc (by simp only [List.mem_cons, List.not_mem_nil, or_false] at z ⊢; rcases z with z | z <;> simp [z])
    · rw [upd_ne (hq1 c (bk c hc))]; exact ho
theorem PLoop.draw {p C b q : Addr} {S : Str} {lo n : Nat} {left left' : Int} {H1 H' H2 : Hp} {i : Nat} {xs : List V} {T : Ka.Tree} (h : PLoop p C b q S lo n left H1 H' i left' xs T) (hp : p ≠ q) (h1 : ∀ m, m ∈ [p, b, q] → ∃ o, H1 m = some o)
    (e : But [p] H' H2) (P2 : Pool H2 p C) : PLoop p C b q S lo n left H1 H2 i left' xs T := by
  obtain ⟨b1, P1, B1, a1, t1, o1, g1, l1, n1, z1⟩ := h
  have hm1 : ∀ c, H1 c = none → c ∉ [p, b, q] := fun c hc z => by obtain ⟨o, ho⟩ := h1 c z; rw [ho] at hc; cases hc
  exact ⟨b1.trans (e.mono fun c z => by simp only [List.mem_singleton] at z; simp [z]), P2, B1.but P1 e, e _ _ a1 (by simp [hp.symm]), t1.mono (fun c o hc ho => e c o ho fun z => hm1 c hc (by simp only [List.mem_singleton] at z; simp [z])) fun _ z => z, o1, g1, l1, n1, z1⟩
theorem parts_none {f : Addr} {fd : FuncData} {k : Nat} : FnOk P w K mg base CX0 k f fd ["pool", "box", "depth"] (spParts 0) := by
  have no : ∀ vs H Q E, ¬ spParts 0 vs H Q E := fun vs H Q E h => by
    obtain ⟨p, C, b, S, left, depth, lo, _, h1, _⟩ := h
    omega
  exact ⟨fun vs H Q E h => absurd h (no vs H Q E), fun A outer s H args us vs Q E _ _ _ _ h => absurd h (no vs H Q E)⟩
end
end Kp
end
section
set_option Elab.async false
set_option linter.all false
set_option maxRecDepth 100000
set_option maxHeartbeats 4000000
namespace Kp
open PySem L2

open Ka
/-! ### dicts of written keys -/
theorem val_zip : ∀ {ks : List Key} {vs : List V} {i : Nat} {k : Key} {v : V}, ks.Nodup → ks[i]? = some k → vs[i]? = some v → valV (ks.zip vs) k = some v
  | [], _, i, k, v, _, hk, _ => by simp at hk
  | a :: ks, [], i, k, v, _, _, hv => by simp at hv
  | a :: ks, x :: vs, 0, k, v, nd, hk, hv => by
    have e1 : a = k := Option.some.inj hk
    have e2 : x = v := Option.some.inj hv
    subst e1; subst e2
    unfold valV
    rw [List.zip_cons_cons, List.find?_cons_of_pos (by exact decide_eq_true rfl)]; rfl
  | a :: ks, x :: vs, i + 1, k, v, nd, hk, hv => by
    obtain ⟨n1, n2⟩ := List.nodup_cons.mp nd
    have ih := val_zip (i := i) (vs := vs) n2 hk hv
    have ne : ¬ a = k := fun z => n1 (by rw [z]; exact List.mem_of_getElem? (i := i) hk)
    unfold valV at ih ⊢
    rw [List.zip_cons_cons, List.find?_cons_of_neg (by simp only [decide_eq_true_eq]; exact ne)]
    exact ih
theorem put_map : ∀ {ks : List Key} {vs : List V} {i : Nat} {k : Key} {x : V}, ks.Nodup → ks[i]? = some k → ks.length = vs.length → (ks.zip vs).map (fun kv => if kv.1 = k then (kv.1, x) else kv) = ks.zip (vs.set i x)
  | [], vs, i, k, x, _, hk, _ => by simp at hk
  | a :: ks, [], i, k, x, _, _, hl => by simp at hl
  | a :: ks, y :: vs, 0, k, x, nd, hk, hl => by
    have e1 : a = k := Option.some.inj hk
    subst e1
    obtain ⟨n1, n2⟩ := List.nodup_cons.mp nd
    rw [List.zip_cons_cons, List.map_cons, if_pos rfl, List.set_cons_zero, List.zip_cons_cons]
    congr 1
    refine (List.map_congr_left fun kv hkv => ?_).trans (List.map_id _)
    have : kv.1 ∈ ks := (List.of_mem_zip hkv).1
    rw [if_neg fun z => n1 (by rw [← z]; exact this)]; rfl
  | a :: ks, y :: vs, i + 1, k, x, nd, hk, hl => by
    obtain ⟨n1, n2⟩ := List.nodup_cons.mp nd
    have ne : ¬ a = k := fun z => n1 (by rw [z]; exact List.mem_of_getElem? (i := i) hk)
    rw [List.zip_cons_cons, List.map_cons, if_neg (by exact ne), List.set_cons_succ, List.zip_cons_cons, put_map (i := i) n2 hk (by simpa using hl)]
theorem put_zip {ks : List Key} {vs : List V} {i : Nat} {k : Key} {x : V} (nd : ks.Nodup) (hk : ks[i]? = some k) (hl : ks.length = vs.length) : putK (ks.zip vs) k x = ks.zip (vs.set i x) := by
  have hi : i < vs.length := by rw [← hl]; exact (List.getElem?_eq_some_iff.mp hk).1
  unfold putK
  rw [if_pos, put_map nd hk hl]
  rw [valV_any, val_zip nd hk (List.getElem?_eq_getElem hi)]; rfl
theorem same_put {H H' : Hp} (h : Same H H') (M : Addr) (o : HO) : But [M] H (upd H' M o) := fun c u e n => by
  rw [upd_ne (fun z => n (by simp [z]))]; exact h c u e
end Kp
namespace Ka
open PySem Kp
def Stm.txt : Stm → Str
  | .pl l => l.txt
  | .block => "{"
  | .iff => "if ? {"
  | .els => "} else {"
  | .whl => "while ? {"
  | .fin => "}"
def Stm.word : Stm → Str
  | .pl (.num _ _) => "number"
  | .pl (.copy _ _) => "copy"
  | .pl (.pair _ _ _) => "pair"
  | .pl (.hd _ _) => "head"
  | .pl (.tl _ _) => "tail"
  | .pl (.prt _) => "print"
  | .block => "block"
  | .iff => "if"
  | .els => "else"
  | .whl => "while"
  | .fin => "end"
def Stm.vals : Stm → List L2.V
  | .pl l => toldV l
  | s => [.str s.word]
/-- the law's word for a kind -/
def Kd.law : Kd → Str
  | .prog => "whole"
  | .block => "block"
  | .iff => "if"
  | .els => "else"
  | .whl => "while"
def Lab.txt : Lab → Str
  | .line l => l.txt
  | .enter n => ("enter " : Str) ++ num_ n
  | .leave n => ("leave " : Str) ++ num_ n
  | .pass => "pass"
def Edge.vals (e : Edge) : List L2.V := [.int e.s, .str e.l.txt, .int e.t]
/-- what the law has laid so far -/
structure Mst where
  ss : List Stm
  deps : List Nat
  scs : List Nat
  par : List (Option Nat)
  kds : List Kd
  es : List Edge
namespace Mst
def line (m : Mst) (s : Stm) (d sc : Nat) : Mst := { m with ss := m.ss ++ [s], deps := m.deps ++ [d], scs := m.scs ++ [sc] }
def edge (m : Mst) (e : Edge) : Mst := { m with es := m.es ++ [e] }
def scope (m : Mst) (k : Kd) (p : Nat) : Mst := { m with par := m.par ++ [some p], kds := m.kds ++ [k] }
def lay (m : Mst) (T : Ka.Tree) (d sc : Nat) : Mst :=
  { ss := m.ss ++ T.flat, deps := m.deps ++ T.ldeps d, scs := m.scs ++ T.lsc sc m.par.length, par := m.par ++ (T.parents sc m.par.length).map some, kds := m.kds ++ T.kinds, es := m.es ++ T.lE m.ss.length m.par.length }
theorem ext' {m n : Mst} (h1 : m.ss = n.ss) (h2 : m.deps = n.deps) (h3 : m.scs = n.scs) (h4 : m.par = n.par) (h5 : m.kds = n.kds) (h6 : m.es = n.es) : m = n := by
  cases m; cases n; simp only at *; subst_vars; rfl
theorem lay_nil (m : Mst) (d sc : Nat) : m.lay .nil d sc = m := by
  apply ext' <;> simp [lay, Tree.flat, Tree.ldeps, Tree.lsc, Tree.parents, Tree.kinds, Tree.lE]
theorem lay_ln (m : Mst) (l : Ln) (r : Ka.Tree) (d sc : Nat) : ((m.line (.pl l) d sc).edge ⟨m.ss.length, .line l, m.ss.length + 1⟩).lay r d sc = m.lay (.ln l r) d sc := by
  apply ext' <;> simp [lay, line, edge, Tree.flat, Tree.ldeps, Tree.lsc, Tree.parents, Tree.kinds, Tree.lE]
/-- a block or a loop -/
def blkA (m : Mst) (w : Bool) (b : Ka.Tree) (d sc : Nat) : Mst :=
  ((((m.line (Tree.st w) d sc).scope (Tree.kd w) sc).edge ⟨m.ss.length, .enter m.par.length, m.ss.length + 1⟩).lay b (d + 1) m.par.length).line .fin d m.par.length
def blkB (m : Mst) (w : Bool) (b : Ka.Tree) (d sc : Nat) : Mst :=
  (if w then (m.blkA w b d sc).edge ⟨m.ss.length, .pass, m.ss.length + 2 + b.len⟩ else m.blkA w b d sc).edge ⟨m.ss.length + 1 + b.len, .leave m.par.length, if w then m.ss.length else m.ss.length + 2 + b.len⟩
theorem blkA_len (m : Mst) (w : Bool) (b : Ka.Tree) (d sc : Nat) : (m.blkA w b d sc).ss.length = m.ss.length + 2 + b.len := by
  simp [blkA, line, scope, edge, lay, flat_len]; omega
theorem blkA_par (m : Mst) (w : Bool) (b : Ka.Tree) (d sc : Nat) : (m.blkA w b d sc).par.length = m.par.length + 1 + b.nsc := by
  simp [blkA, line, scope, edge, lay, parents_len]; omega
theorem blkB_len (m : Mst) (w : Bool) (b : Ka.Tree) (d sc : Nat) : (m.blkB w b d sc).ss.length = m.ss.length + 2 + b.len := by
  rw [← blkA_len m w b d sc]; cases w <;> rfl
theorem blkB_par (m : Mst) (w : Bool) (b : Ka.Tree) (d sc : Nat) : (m.blkB w b d sc).par.length = m.par.length + 1 + b.nsc := by
  rw [← blkA_par m w b d sc]; cases w <;> rfl
theorem lay_blk (m : Mst) (w : Bool) (b r : Ka.Tree) (d sc : Nat) : (m.blkB w b d sc).lay r d sc = m.lay (.blk w b r) d sc := by
  have e1 := m.blkB_len w b d sc
  have e2 := m.blkB_par w b d sc
  apply ext'
  · show (m.blkB w b d sc).ss ++ _ = _
    have : (m.blkB w b d sc).ss = (m.blkA w b d sc).ss := by cases w <;> rfl
    rw [this]; simp [blkA, lay, line, edge, scope, Tree.flat]
  · show (m.blkB w b d sc).deps ++ _ = _
    have : (m.blkB w b d sc).deps = (m.blkA w b d sc).deps := by cases w <;> rfl
    rw [this]; simp [blkA, lay, line, edge, scope, Tree.ldeps]
  · show (m.blkB w b d sc).scs ++ _ = _
    rw [e2]
    have : (m.blkB w b d sc).scs = (m.blkA w b d sc).scs := by cases w <;> rfl
    rw [this]; simp [blkA, lay, line, edge, scope, Tree.lsc]
  · show (m.blkB w b d sc).par ++ _ = _
    rw [e2]
    have : (m.blkB w b d sc).par = (m.blkA w b d sc).par := by cases w <;> rfl
    rw [this]; simp [blkA, lay, line, edge, scope, Tree.parents]
  · show (m.blkB w b d sc).kds ++ _ = _
    have : (m.blkB w b d sc).kds = (m.blkA w b d sc).kds := by cases w <;> rfl
    rw [this]; simp [blkA, lay, line, edge, scope, Tree.kinds]
  · show (m.blkB w b d sc).es ++ _ = _
    rw [e1, e2]
    cases w <;> simp [blkB, blkA, lay, line, edge, scope, Tree.lE]
def brA (m : Mst) (a : Ka.Tree) (d sc : Nat) : Mst :=
  (((((m.line .iff d sc).scope .iff sc).edge ⟨m.ss.length, .enter m.par.length, m.ss.length + 1⟩).lay a (d + 1) m.par.length).line .els d m.par.length).scope .els sc
def brB (m : Mst) (a b : Ka.Tree) (d sc : Nat) : Mst :=
  ((((((m.brA a d sc).edge ⟨m.ss.length, .enter (m.par.length + 1 + a.nsc), m.ss.length + 2 + a.len⟩).lay b (d + 1) (m.par.length + 1 + a.nsc)).line .fin d (m.par.length + 1 + a.nsc)).edge
    ⟨m.ss.length + 1 + a.len, .leave m.par.length, m.ss.length + 3 + a.len + b.len⟩).edge ⟨m.ss.length + 2 + a.len + b.len, .leave (m.par.length + 1 + a.nsc), m.ss.length + 3 + a.len + b.len⟩)
theorem brA_len (m : Mst) (a : Ka.Tree) (d sc : Nat) : (m.brA a d sc).ss.length = m.ss.length + 2 + a.len := by
  simp [brA, line, scope, edge, lay, flat_len]; omega
theorem brA_par (m : Mst) (a : Ka.Tree) (d sc : Nat) : (m.brA a d sc).par.length = m.par.length + 2 + a.nsc := by
  simp [brA, line, scope, edge, lay, parents_len]; omega
theorem brB_len (m : Mst) (a b : Ka.Tree) (d sc : Nat) : (m.brB a b d sc).ss.length = m.ss.length + 3 + a.len + b.len := by
  have := m.brA_len a d sc
  simp [brB, line, edge, lay, flat_len]; omega
theorem brB_par (m : Mst) (a b : Ka.Tree) (d sc : Nat) : (m.brB a b d sc).par.length = m.par.length + 2 + a.nsc + b.nsc := by
  have := m.brA_par a d sc
  simp [brB, line, edge, lay, parents_len]; omega
theorem lay_br (m : Mst) (a b r : Ka.Tree) (d sc : Nat) : (m.brB a b d sc).lay r d sc = m.lay (.br a b r) d sc := by
  have e1 := m.brB_len a b d sc
  have e2 := m.brB_par a b d sc
  have f1 := m.brA_len a d sc
  have f2 := m.brA_par a d sc
  apply ext'
  · simp [brB, brA, lay, line, edge, scope, Tree.flat]
  · simp [brB, brA, lay, line, edge, scope, Tree.ldeps]
  · show (m.brB a b d sc).scs ++ _ = _
    rw [e2]
    show ((m.brA a d sc).scs ++ b.lsc _ (m.brA a d sc).par.length) ++ [_] ++ _ = _
    rw [f2]; simp [brA, lay, line, edge, scope, Tree.lsc]
  · show (m.brB a b d sc).par ++ _ = _
    rw [e2]
    show ((m.brA a d sc).par ++ (b.parents _ (m.brA a d sc).par.length).map some) ++ _ = _
    rw [f2]; simp [brA, lay, line, edge, scope, Tree.parents]
  · simp [brB, brA, lay, line, edge, scope, Tree.kinds]
  · show (m.brB a b d sc).es ++ _ = _
    rw [e1, e2]
    show ((((m.brA a d sc).es ++ [_]) ++ b.lE (m.brA a d sc).ss.length (m.brA a d sc).par.length) ++ [_]) ++ [_] ++ _ = _
    rw [f1, f2]; simp [brA, lay, line, edge, scope, Tree.lE]
end Mst
end Ka
end
section
set_option Elab.async false
set_option linter.all false
set_option maxRecDepth 100000
set_option maxHeartbeats 4000000
namespace Kp
open PySem L2

open Ka
inductive TupsAt (H : Hp) : List V → List (List V) → Prop where
  | nil : TupsAt H [] []
  | cons {a : Addr} {vs : List V} {xs : List V} {vss : List (List V)} : H a = some (.tup vs) → TupsAt H xs vss → TupsAt H (.ref a :: xs) (vs :: vss)
theorem TupsAt.mono {H H' : Hp} {xs : List V} {vss : List (List V)} (h : TupsAt H xs vss) (k : ∀ a vs, H a = some (.tup vs) → H' a = some (.tup vs)) : TupsAt H' xs vss := by
  induction h with
  | nil => exact .nil
  | cons h _ ih => exact .cons (k _ _ h) ih
theorem TupsAt.snoc {H : Hp} {xs : List V} {vss : List (List V)} {a : Addr} {vs : List V} (h : TupsAt H xs vss) (g : H a = some (.tup vs)) : TupsAt H (xs ++ [.ref a]) (vss ++ [vs]) := by
  induction h with
  | nil => exact .cons g .nil
  | cons h _ ih => exact .cons h ih
theorem TupsAt.length {H : Hp} {xs : List V} {vss : List (List V)} (h : TupsAt H xs vss) : xs.length = vss.length := by
  induction h with
  | nil => rfl
  | cons _ _ ih => simp [ih]
def opV : Option Nat → V
  | some n => .int n
  | none => .non
def ks7 : List Key := [.inr ("lines" : Str), .inr ("told" : Str), .inr ("depths" : Str), .inr ("scopes" : Str), .inr ("parents" : Str), .inr ("kinds" : Str), .inr ("edges" : Str)]
theorem ks7_nd : ks7.Nodup := by decide +kernel
/-- the rows of m at a1 .. a7 -/
structure Rows (H : Hp) (a1 a2 a3 a4 a5 a6 a7 : Addr) (xs es : List V) (m : Mst) : Prop where
  l1 : H a1 = some (.lst (m.ss.map fun s => V.str s.txt))
  l2 : H a2 = some (.lst xs)
  t2 : TupsAt H xs (m.ss.map Stm.vals)
  l3 : H a3 = some (.lst (m.deps.map fun n => V.int (n : Nat)))
  l4 : H a4 = some (.lst (m.scs.map fun n => V.int (n : Nat)))
  l5 : H a5 = some (.lst (m.par.map opV))
  l6 : H a6 = some (.lst (m.kds.map fun k => V.str k.law))
  l7 : H a7 = some (.lst es)
  t7 : TupsAt H es (m.es.map Edge.vals)
def mdK (a1 a2 a3 a4 a5 a6 a7 : Addr) : List (Key × V) := ks7.zip [.ref a1, .ref a2, .ref a3, .ref a4, .ref a5, .ref a6, .ref a7]
def MadeAt (H : Hp) (M : Addr) (m : Mst) : Prop := ∃ (a1 a2 a3 a4 a5 a6 a7 : Addr) (xs es : List V), H M = some (.dK (mdK a1 a2 a3 a4 a5 a6 a7)) ∧ Rows H a1 a2 a3 a4 a5 a6 a7 xs es m
/-- all but the dict M is kept -/
theorem Rows.but {H H' : Hp} {M a1 a2 a3 a4 a5 a6 a7 : Addr} {xs es : List V} {m : Mst} {kvs : List (Key × V)} (h : Rows H a1 a2 a3 a4 a5 a6 a7 xs es m) (hM : H M = some (.dK kvs)) (e : But [M] H H') : Rows H' a1 a2 a3 a4 a5 a6 a7 xs es m := by
  have kl : ∀ a ys, H a = some (.lst ys) → H' a = some (.lst ys) := fun a ys q => e a _ q (by simp only [List.mem_singleton]; exact ne_of q hM (by intro z; cases z))
  have kt : ∀ a ys, H a = some (.tup ys) → H' a = some (.tup ys) := fun a ys q => e a _ q (by simp only [List.mem_singleton]; exact ne_of q hM (by intro z; cases z))
  exact ⟨kl _ _ h.l1, kl _ _ h.l2, h.t2.mono kt, kl _ _ h.l3, kl _ _ h.l4, kl _ _ h.l5, kl _ _ h.l6, kl _ _ h.l7, h.t7.mono kt⟩
theorem Rows.same {H H' : Hp} {a1 a2 a3 a4 a5 a6 a7 : Addr} {xs es : List V} {m : Mst} (h : Rows H a1 a2 a3 a4 a5 a6 a7 xs es m) (e : Same H H') : Rows H' a1 a2 a3 a4 a5 a6 a7 xs es m :=
  ⟨e _ _ h.l1, e _ _ h.l2, h.t2.mono fun a vs => e a _, e _ _ h.l3, e _ _ h.l4, e _ _ h.l5, e _ _ h.l6, e _ _ h.l7, h.t7.mono fun a vs => e a _⟩
section
variable {a1 a2 a3 a4 a5 a6 a7 b : Addr} {H : Hp} {M : Addr}
theorem md_get (i : Nat) {k : Key} {v : V} (h : H M = some (.dK (mdK a1 a2 a3 a4 a5 a6 a7))) (hk : ks7[i]? = some k) (hv : ([.ref a1, .ref a2, .ref a3, .ref a4, .ref a5, .ref a6, .ref a7] : List V)[i]? = some v) : DGet H M (kV k) (some v) := by
  have z := DGet.k (k := k) h
  unfold mdK at z
  rw [val_zip ks7_nd hk hv] at z
  exact z
theorem md_put (i : Nat) {k : Key} {v : V} (h : H M = some (.dK (mdK a1 a2 a3 a4 a5 a6 a7))) (hk : ks7[i]? = some k) : DPut H M (kV k) v (upd H M (.dK (ks7.zip (([.ref a1, .ref a2, .ref a3, .ref a4, .ref a5, .ref a6, .ref a7] : List V).set i v)))) := by
  have z := DPut.k (k := k) (v := v) h (by show (mdK a1 a2 a3 a4 a5 a6 a7).length < sizeLine; exact small1000 (by show 7 ≤ 1000; decide))
  unfold mdK at z
  rw [put_zip ks7_nd hk rfl] at z
  exact z
end
section
variable {P : Program} {w : World} {K : PySem.W.Frag} {mg : Str → Option Value} {base : Heap}
/-- made[k] = made[k] + [x] -/
theorem app_step {te : TE} {D : Ends} {σ : L2.St} {H : Hp} {M a : Addr} {j0 i : Nat} {kx : Str} {vs ys : List V} (X : V → Hp → Prop) (h0 : σ[j0]? = some (some (.ref M))) (hM : H M = some (.dK (ks7.zip vs))) (hl : vs.length = 7) (hk : ks7[i]? = some (.inr kx)) (hv : vs[i]? = some (.ref a))
    (ha : H a = some (.lst ys)) (hz : ys.length ≤ 900) (hx : ∀ H1 (Q' : VK), Same H H1 → (∀ H2 x, Same H1 H2 → X x H2 → Q' x H2) → te σ H1 Q')
    (q : ∀ H' c x H2, But [M] H H' → H c = none → Same H H2 → X x H2 → But [M] H2 H' → H' M = some (.dK (ks7.zip (vs.set i (.ref c)))) → H' c = some (.lst (ys ++ [x])) → D.nx σ H') :
    sDPut (tVar j0) (tC (.str kx)) (tOp rCat (tDGet (tVar j0) (tC (.str kx))) (tLst (tCons te tNil))) D σ H := by
  have g : DGet H M (.str kx) (some (.ref a)) := by
    have z := DGet.k (k := (.inr kx : Key)) hM
    rw [val_zip ks7_nd hk hv] at z
    exact z
  refine ⟨_, h0, M, _, rfl, g, hx H _ (Same.refl H) fun H2 x s2 hX => ⟨by show 1 ≤ sizeLine; decide, fun n1 hn1 => ?_⟩⟩
  have e1 := s2.trans (same_new hn1 (.lst [x]))
  refine ⟨a, n1, _, _, rfl, rfl, e1 _ _ ha, upd_same, small30 (by show ys.length + 1 ≤ 1000; omega), fun c hc => ?_⟩
  have e2 := e1.trans (same_new hc (.lst (ys ++ [x])))
  have pz := DPut.k (k := (.inr kx : Key)) (v := .ref c) (e2 _ _ hM) (small1000 (by rw [List.length_zip]; have : ks7.length = 7 := rfl; omega))
  rw [put_zip ks7_nd hk (by rw [hl]; rfl)] at pz
  refine ⟨_, h0, M, _, rfl, pz, ?_⟩
  have ncM : c ≠ M := fun z => by rw [z, e1 _ _ hM] at hc; cases hc
  refine q _ c x H2 (same_put e2 M _) (e1.free hc) s2 hX ?_ upd_same (by rw [upd_ne ncM, upd_same])
  exact same_put (((same_new hn1 _).trans (same_new hc _))) M _
theorem var_gives {σ : L2.St} {H1 : Hp} {j : Nat} {x : V} (h : σ[j]? = some (some x)) (Q' : VK) (k : ∀ H2 y, Same H1 H2 → y = x → Q' y H2) : tVar j σ H1 Q' := ⟨x, h, k H1 x (Same.refl _) rfl⟩
def spLine : Sp := fun vs H Q _ => ∃ (M t : Addr) (m : Mst) (s : Stm) (d sc : Nat), vs = [.ref M, .str s.txt, .ref t, .int (d : Nat), .int (sc : Nat)] ∧ MadeAt H M m ∧ H t = some (.tup s.vals) ∧ m.ss.length ≤ 900 ∧ m.deps.length = m.ss.length ∧ m.scs.length = m.ss.length ∧
  ∀ H', But [M] H H' → MadeAt H' M (m.line s d sc) → Q (.int (m.ss.length : Nat)) H'
def spScope : Sp := fun vs H Q _ => ∃ (M : Addr) (m : Mst) (k : Kd) (p : Nat), vs = [.ref M, .str k.law, .int (p : Nat)] ∧ MadeAt H M m ∧ m.par.length ≤ 900 ∧ m.kds.length = m.par.length ∧
  ∀ H', But [M] H H' → MadeAt H' M (m.scope k p) → Q (.int (m.par.length : Nat)) H'
def spEdge : Sp := fun vs H Q _ => ∃ (M : Addr) (m : Mst) (e : Edge), vs = [.ref M, .int (e.s : Nat), .str e.l.txt, .int (e.t : Nat)] ∧ MadeAt H M m ∧ m.es.length ≤ 900 ∧ ∀ H', But [M] H H' → MadeAt H' M (m.edge e) → Q .non H'
end
end Kp
end
section
set_option Elab.async false
set_option linter.all false
set_option maxRecDepth 100000
set_option maxHeartbeats 4000000
namespace Kp
open PySem L2

open Ka
theorem lab_line (l : Ln) : (Lab.line l).txt = l.txt := rfl
/-- the second sign of a line -/
theorem txt_two (l : Ln) : l.txt.cps.toList[1]? = some 32 ∨ l.txt.cps.toList[1]? = some 114 := by
  have e : ∀ (c : Nat) (x : Str), ((ch c) ++ x).cps.toList = c :: x.cps.toList := fun c x => by rw [cps_app]; rfl
  have s1 : (" = " : Str).cps.toList = [32, 61, 32] := by decide +kernel
  have s2 : (" = [" : Str).cps.toList = [32, 61, 32, 91] := by decide +kernel
  have s3 : ("print " : Str).cps.toList = [112, 114, 105, 110, 116, 32] := by decide +kernel
  cases l <;> simp [Ln.txt, cps_app, e, s1, s2, s3, show ∀ c, (ch c).cps.toList = [c] from fun _ => rfl]
theorem txt_ne {l : Ln} {x : Str} (h : x.cps.toList[1]? ≠ some 32) (h2 : x.cps.toList[1]? ≠ some 114) : l.txt ≠ x := fun e => by
  rcases txt_two l with q | q
  · rw [e] at q; exact h q
  · rw [e] at q; exact h2 q
theorem txt_if (l : Ln) : l.txt ≠ ("if" : Str) := txt_ne (by decide +kernel) (by decide +kernel)
theorem txt_block (l : Ln) : l.txt ≠ ("block" : Str) := txt_ne (by decide +kernel) (by decide +kernel)
theorem txt_while (l : Ln) : l.txt ≠ ("while" : Str) := txt_ne (by decide +kernel) (by decide +kernel)
theorem nsc_len (T : Ka.Tree) : T.nsc ≤ T.len := by
  induction T with
  | nil => exact Nat.le_refl _
  | ln l r ih => simp only [Tree.nsc, Tree.len]; omega
  | blk w b r ihb ihr => simp only [Tree.nsc, Tree.len]; omega
  | br a b r iha ihb ihr => simp only [Tree.nsc, Tree.len]; omega
theorem lE_len (T : Ka.Tree) : ∀ k n, (T.lE k n).length ≤ 2 * T.len := by
  induction T with
  | nil => intro k n; exact Nat.le_refl _
  | ln l r ih => intro k n; have := ih (k + 1) n; simp only [Tree.lE, Tree.len, List.length_cons]; omega
  | blk w b r ihb ihr =>
    intro k n
    have h1 := ihb (k + 1) (n + 1)
    have h2 := ihr (k + 2 + b.len) (n + 1 + b.nsc)
    cases w <;> (simp only [Tree.lE, Tree.len, List.length_cons, List.length_append, if_true, Bool.false_eq_true, if_false, List.length_nil]; omega)
  | br a b r iha ihb ihr =>
    intro k n
    have h1 := iha (k + 1) (n + 1)
    have h2 := ihb (k + 2 + a.len) (n + 2 + a.nsc)
    have h3 := ihr (k + 3 + a.len + b.len) (n + 2 + a.nsc + b.nsc)
    simp only [Tree.lE, Tree.len, List.length_cons, List.length_append]; omega
theorem ldeps_len (T : Ka.Tree) : ∀ d, (T.ldeps d).length = T.len := by
  induction T with
  | nil => intro d; rfl
  | ln l r ih => intro d; simp only [Tree.ldeps, Tree.len, List.length_cons, ih]; omega
  | blk w b r ihb ihr => intro d; simp only [Tree.ldeps, Tree.len, List.length_cons, List.length_append, ihb, ihr]; omega
  | br a b r iha ihb ihr => intro d; simp only [Tree.ldeps, Tree.len, List.length_cons, List.length_append, iha, ihb, ihr]; omega
/-- k more lines have room -/
structure Fit (m : Mst) (k : Nat) : Prop where
  s : m.ss.length + k ≤ 400
  p : m.par.length + k ≤ 401
  e : m.es.length + 2 * k ≤ 800
  d : m.deps.length = m.ss.length
  c : m.scs.length = m.ss.length
  k : m.kds.length = m.par.length
theorem Fit.lay {m : Mst} {T : Ka.Tree} {k d sc : Nat} (h : Fit m (T.len + k)) : Fit (m.lay T d sc) k where
  s := by have := h.s; simp only [Mst.lay, List.length_append, flat_len]; omega
  p := by have := h.p; have := nsc_len T; simp only [Mst.lay, List.length_append, List.length_map, parents_len]; omega
  e := by have := h.e; have := lE_len T m.ss.length m.par.length; simp only [Mst.lay, List.length_append]; omega
  d := by simp only [Mst.lay, List.length_append, flat_len, ldeps_len, h.d]
  c := by simp only [Mst.lay, List.length_append, flat_len, lsc_len, h.c]
  k := by simp only [Mst.lay, List.length_append, List.length_map, parents_len, kinds_len, h.k]
theorem Fit.less {m : Mst} {k j : Nat} (h : Fit m k) (q : j ≤ k) : Fit m j := ⟨by have := h.s; omega, by have := h.p; omega, by have := h.e; omega, h.d, h.c, h.k⟩
section
variable {P : Program} {w : World} {K : PySem.W.Frag} {mg : Str → Option Value} {base : Heap}
def spLay (n : Nat) : Sp := fun vs H Q _ => ∃ (M c : Addr) (xs : List V) (T : Ka.Tree) (m : Mst) (d sc : Nat), vs = [.ref M, .ref c, .int (d : Nat), .int (sc : Nat)] ∧ T.high + 1 ≤ n ∧ MadeAt H M m ∧ H c = some (.lst xs) ∧ HasT (fun b => b ≠ M) H xs T ∧ Fit m T.len ∧
  ∀ H', But [M] H H' → MadeAt H' M (m.lay T d sc) → Q .non H'
def spBranch (n : Nat) : Sp := fun vs H Q _ => ∃ (M p c1 c2 : Addr) (xs ys : List V) (A B : Ka.Tree) (m : Mst) (d sc : Nat), vs = [.ref M, .ref p, .int (d : Nat), .int (sc : Nat)] ∧ A.high + 1 ≤ n ∧ B.high + 1 ≤ n ∧ MadeAt H M m ∧ H p = some (.tup [.str "if", .ref c1, .ref c2]) ∧
  H c1 = some (.lst xs) ∧ H c2 = some (.lst ys) ∧ HasT (fun b => b ≠ M) H xs A ∧ HasT (fun b => b ≠ M) H ys B ∧ Fit m (3 + A.len + B.len) ∧ ∀ H', But [M] H H' → MadeAt H' M (m.brB A B d sc) → Q .non H'
theorem made_dict {H : Hp} {M : Addr} {m : Mst} (h : MadeAt H M m) : ∃ k, H M = some (.dK k) := by obtain ⟨_, _, _, _, _, _, _, _, _, h, _⟩ := h; exact ⟨_, h⟩
theorem keep_t {H H' : Hp} {M a : Addr} {m : Mst} {vs : List V} (h : MadeAt H M m) (e : But [M] H H') (q : H a = some (.tup vs)) : H' a = some (.tup vs) := by
  obtain ⟨k, hk⟩ := made_dict h
  exact e a _ q (by simp only [List.mem_singleton]; exact ne_of q hk (by intro z; cases z))
theorem keep_l {H H' : Hp} {M a : Addr} {m : Mst} {vs : List V} (h : MadeAt H M m) (e : But [M] H H') (q : H a = some (.lst vs)) : H' a = some (.lst vs) := by
  obtain ⟨k, hk⟩ := made_dict h
  exact e a _ q (by simp only [List.mem_singleton]; exact ne_of q hk (by intro z; cases z))
theorem MadeAt.same {H H' : Hp} {M : Addr} {m : Mst} (h : MadeAt H M m) (e : Same H H') : MadeAt H' M m := by
  obtain ⟨a1, a2, a3, a4, a5, a6, a7, xs, es, h, R⟩ := h
  exact ⟨a1, a2, a3, a4, a5, a6, a7, xs, es, e _ _ h, R.same e⟩
theorem log_small {n : Nat} (h : n ≤ 1000) : ((n : Nat) : Int).natAbs.log2 < 1920 := by
  rw [Int.natAbs_natCast]
  have : n.log2 ≤ n := Nat.log2_le_self n
  omega
theorem l_enter : ("enter " : Str).length = 6 := by decide +kernel
theorem l_leave : ("leave " : Str).length = 6 := by decide +kernel
end
end Kp
end
section
set_option Elab.async false
set_option linter.all false
set_option maxRecDepth 100000
set_option maxHeartbeats 4000000
namespace Kp
open PySem L2

open Ka
theorem wStr_st (b : Bool) : (if b then ("while ? {" : Str) else "{") = (Tree.st b).txt := by cases b <;> rfl
theorem wStr_vals (b : Bool) : [V.str (wStr b)] = (Tree.st b).vals := by cases b <;> rfl
theorem wStr_law (b : Bool) : wStr b = (Tree.kd b).law := by cases b <;> rfl
theorem w_if (b : Bool) : wStr b ≠ ("if" : Str) := by cases b <;> decide +kernel
theorem w_while (b : Bool) : decide (V.str (wStr b) = V.str ("while" : Str)) = b := by
  cases b
  · exact decide_eq_false (by intro z; injection z with z; exact absurd z (by decide +kernel))
  · exact decide_eq_true rfl
theorem b_w : (("block" : Str) == ("while" : Str)) = false := by decide +kernel
section
variable {P : Program} {w : World} {K : PySem.W.Frag} {mg : Str → Option Value} {base : Heap}
theorem lay_none {f : Addr} {fd : FuncData} {k : Nat} : FnOk P w K mg base CX0 k f fd ["made", "parts", "depth", "scope"] (spLay 0) := by
  have no : ∀ vs H Q E, ¬ spLay 0 vs H Q E := fun vs H Q E h => by
    obtain ⟨M, c, xs, T, m, d, sc, _, h1, _⟩ := h
    omega
  exact ⟨fun vs H Q E h => absurd h (no vs H Q E), fun A outer s H args us vs Q E _ _ _ _ h => absurd h (no vs H Q E)⟩
end
end Kp
end
section
set_option Elab.async false
set_option linter.all false
set_option maxRecDepth 100000
set_option maxHeartbeats 4000000
namespace Kp
open PySem L2

open Ka
theorem merge_new : ∀ {kvs acc : List (Key × V)}, ((acc ++ kvs).map (·.1)).Nodup → mergeK acc kvs = acc ++ kvs
  | [], acc, _ => by simp [mergeK]
  | (k, v) :: kvs, acc, h => by
    have hk : ¬ k ∈ acc.map (·.1) := by
      rw [List.map_append, List.map_cons] at h
      intro hm
      have h2 : List.Pairwise (fun a b : Key => a ≠ b) (acc.map (fun kv => kv.1) ++ k :: kvs.map (fun kv => kv.1)) := h
      exact (List.pairwise_append.mp h2).2.2 k hm k (by simp) rfl
    have e : putK acc k v = acc ++ [(k, v)] := by
      unfold putK
      rw [if_neg]
      intro z
      obtain ⟨p, hp, e⟩ := List.any_eq_true.mp z
      exact hk (List.mem_map.mpr ⟨p, hp, of_decide_eq_true e⟩)
    have ih := merge_new (kvs := kvs) (acc := acc ++ [(k, v)]) (by simpa using h)
    show mergeK (putK acc k v) kvs = _
    rw [e, ih]; simp
theorem md_merge (a1 a2 a3 a4 a5 a6 a7 : Addr) : mergeK [] (mdK a1 a2 a3 a4 a5 a6 a7) = mdK a1 a2 a3 a4 a5 a6 a7 := by
  have e : ((([] : List (Key × V)) ++ mdK a1 a2 a3 a4 a5 a6 a7).map (·.1)) = ks7 := rfl
  rw [merge_new (by rw [e]; exact ks7_nd)]; rfl
theorem HasT.tracked {N : Addr → Prop} {H : Hp} {xs : List V} {T : Ka.Tree} (h : HasT N H xs T) : HasT (fun b => ∃ o, H b = some o) H xs T := by
  induction h with
  | nil => exact .nil
  | ln ha ht hl _ ih => exact .ln ⟨_, hl.1⟩ ⟨_, hl.2⟩ hl ih
  | blk ha hc h1 h2 _ _ ih1 ih2 => exact .blk ⟨_, h1⟩ ⟨_, h2⟩ h1 h2 ih1 ih2
  | br ha hc hd h1 h2 h3 _ _ _ ih1 ih2 ih3 => exact .br ⟨_, h1⟩ ⟨_, h2⟩ ⟨_, h3⟩ h1 h2 h3 ih1 ih2 ih3
def m0 : Mst := ⟨[], [], [], [none], [.prog], []⟩
/-- what the law has built of T -/
def mT (T : Ka.Tree) : Mst := { m0.lay T 0 0 with scs := T.lsc 0 1 ++ [0] }
theorem const_gives {σ : L2.St} {H1 : Hp} {x : V} (Q' : VK) (k : ∀ H2 y, Same H1 H2 → y = x → Q' y H2) : tC x σ H1 Q' := k H1 x (Same.refl _) rfl
section
variable {P : Program} {w : World} {K : PySem.W.Frag} {mg : Str → Option Value} {base : Heap}
def spBuilt : Sp := fun vs H Q _ => ∃ (c : Addr) (xs : List V) (T : Ka.Tree) (N : Addr → Prop), vs = [.ref c] ∧ H c = some (.lst xs) ∧ HasT N H xs T ∧ T.high ≤ 5 ∧ T.len ≤ 300 ∧ ∀ (M : Addr) (H' : Hp), Same H H' → H M = none → MadeAt H' M (mT T) → Q (.ref M) H'
end
end Kp
end
section
set_option Elab.async false
set_option linter.all false
set_option maxRecDepth 100000
set_option maxHeartbeats 4000000
namespace Kp
open PySem L2

open Ka
theorem around_succ (P : List (Option Nat)) : ∀ (k s : Nat), ∃ init l, around P k s = init ++ [l] ∧ around P (k + 1) s = (init ++ [l]) ++ (match (P[l]?).getD none with | some p => [p] | none => [])
  | 0, s => ⟨[], s, rfl, by simp only [around]; rfl⟩
  | k + 1, s => by
    cases h : (P[s]?).getD none with
    | none => exact ⟨[], s, by simp [around, h], by rw [around]; simp [h]⟩
    | some p =>
      obtain ⟨init, l, e1, e2⟩ := around_succ P k p
      refine ⟨s :: init, l, ?_, ?_⟩
      · rw [around]; simp [h, e1]
      · rw [around]; simp only [h, e2]; simp
section
variable {P : Program} {w : World} {K : PySem.W.Frag} {mg : Str → Option Value} {base : Heap}
def spAround : Sp := fun vs H Q _ => ∃ (M : Addr) (m : Mst) (s : Nat), vs = [.ref M, .int (s : Nat)] ∧ MadeAt H M m ∧ s < m.par.length ∧ (∀ (i p : Nat), m.par[i]? = some (some p) → p < m.par.length) ∧
  ∀ (t : Addr) (H' : Hp), Same H H' → H t = none → H' t = some (.tup ((around m.par 6 s).map fun n => V.int (n : Nat))) → Q (.ref t) H'
theorem around_lt {P : List (Option Nat)} (h : ∀ (i p : Nat), P[i]? = some (some p) → p < P.length) : ∀ (k s : Nat), s < P.length → ∀ x ∈ around P k s, x < P.length
  | 0, s, hs, x, hx => by simp [around] at hx; omega
  | k + 1, s, hs, x, hx => by
    rw [around] at hx
    rcases List.mem_cons.mp hx with rfl | hx
    · exact hs
    · cases e : (P[s]?).getD none with
      | none => rw [e] at hx; cases hx
      | some p =>
        rw [e] at hx
        have : P[s]? = some (some p) := by
          rw [List.getElem?_eq_getElem hs] at e ⊢
          simpa using e
        exact around_lt h k p (h s p this) x hx
theorem around_len (P : List (Option Nat)) : ∀ k s, (around P k s).length ≤ k + 1
  | 0, s => by simp [around]
  | k + 1, s => by
    rw [around]
    cases e : (P[s]?).getD none with
    | none => simp
    | some p => have := around_len P k p; simp; omega
end
end Kp
end
section
set_option Elab.async false
set_option linter.all false
set_option maxRecDepth 100000
set_option maxHeartbeats 4000000
namespace Kp
open PySem L2

open Ka
theorem tyT {K : PySem.W.Frag} {H : Hp} {a : Addr} {xs : List V} (h : SqT K H a xs) : TyX K H (.ref a) (.type "tuple") := by
  rcases h with (h | ⟨o, h⟩) | ⟨o, its, n, h1, h2, _⟩
  · exact .base (.tup h)
  · exact .fTuple h
  · exact .kTuple h1 h2
def scal1 : V → Bool
  | .non => true
  | .bl _ => true
  | .int _ => true
  | .str _ => true
  | _ => false
/-- x and y are the same data, tuples at most n deep -/
def Eq2 (K : PySem.W.Frag) (H : Hp) : Nat → V → V → Prop
  | 0, x, y => x = y ∧ scal1 x = true
  | n + 1, x, y => (x = y ∧ scal1 x = true) ∨ ∃ (a b : Addr) (xs ys : List V), x = .ref a ∧ y = .ref b ∧ SqT K H a xs ∧ SqT K H b ys ∧ xs.length = ys.length ∧ xs.length ≤ 1000 ∧ ∀ (i : Nat) x y, xs[i]? = some x → ys[i]? = some y → Eq2 K H n x y
theorem Eq2.scal {K : PySem.W.Frag} {H : Hp} {n : Nat} {x : V} (h : scal1 x = true) : Eq2 K H n x x := by
  cases n with
  | zero => exact ⟨rfl, h⟩
  | succ n => exact .inl ⟨rfl, h⟩
theorem Eq2.keep {K : PySem.W.Frag} {H H' : Hp} (k : KeepT K H H') : ∀ {n : Nat} {x y : V}, Eq2 K H n x y → Eq2 K H' n x y
  | 0, _, _, h => h
  | n + 1, _, _, .inl h => .inl h
  | n + 1, _, _, .inr ⟨a, b, xs, ys, e1, e2, h1, h2, h3, h4, h5⟩ => .inr ⟨a, b, xs, ys, e1, e2, k _ _ h1, k _ _ h2, h3, h4, fun i x y hx hy => Eq2.keep k (h5 i x y hx hy)⟩
theorem Eq2.tup {K : PySem.W.Frag} {H : Hp} {n : Nat} {a b : Addr} {xs ys : List V} (h1 : SqT K H a xs) (h2 : SqT K H b ys) (h3 : xs.length = ys.length) (h4 : xs.length ≤ 1000) (h5 : ∀ (i : Nat) x y, xs[i]? = some x → ys[i]? = some y → Eq2 K H n x y) : Eq2 K H (n + 1) (.ref a) (.ref b) := .inr ⟨a, b, xs, ys, rfl, rfl, h1, h2, h3, h4, h5⟩
/-- two tuples of the same scalars -/
theorem Eq2.flat {K : PySem.W.Frag} {H : Hp} {n : Nat} {a b : Addr} {xs : List V} (h1 : SqT K H a xs) (h2 : SqT K H b xs) (h4 : xs.length ≤ 1000) (h : ∀ x ∈ xs, scal1 x = true) : Eq2 K H (n + 1) (.ref a) (.ref b) :=
  .tup h1 h2 rfl h4 fun i x y hx hy => by
    have e : x = y := Option.some.inj (hx.symm.trans hy)
    subst e
    exact .scal (h x (List.mem_of_getElem? hx))
section
variable {P : Program} {w : World} {K : PySem.W.Frag} {mg : Str → Option Value} {base : Heap}
def spInteger : Sp := fun vs H Q _ => ∃ i : Int, vs = [.int i] ∧ Q (.bl true) H
theorem scN_integer : FnScope ["actual"] ["actual"] (defScope s_L_is_integer) := ⟨rfl, rfl, rfl, by decide +kernel, rfl, by decide +kernel, by decide +kernel⟩
theorem ok_integer (T : Tx K w mg) : FnOk P w K mg base CX0 1 T.f_L_is_integer T.d_L_is_integer ["actual"] spInteger := by
  refine T.L_is_integer.F.ok scN_integer (fun vs H Q E h => ?_) (fun cdv A outer s H vs Q E hr h => ?_)
  · obtain ⟨i, rfl, _⟩ := h
    rfl
  · obtain ⟨i, rfl, q⟩ := h
    refine ⟨_, (pss_one (ps_ret (pe_and (pe_callB call_isi (by rfl) T.B.isinstance (by decide +kernel) (pa_cons (pv 0) (pa_cons (pe_bltn (by rfl) T.B.int (by decide +kernel) (v := .ty "int") rfl) pa_nil))) (pe_one (pe_not (pe_callB call_isi (by rfl) T.B.isinstance (by decide +kernel) (pa_cons (pv 0) (pa_cons (pe_bltn (by rfl) T.B.bool (by decide +kernel) (v := .ty "bool") rfl) pa_nil)))))))), ?_⟩
    refine ⟨_, rfl, _, _, _, _, true, rfl, .ty _, .base (.int i), kit_ty (by decide +kernel), _, rfl, ?_⟩
    refine iteT (B := True) ?_
    exact ⟨_, rfl, _, _, _, _, false, rfl, .ty _, .base (.int i), kit_ty (by decide +kernel), _, rfl, q⟩
def spSame (K : PySem.W.Frag) (n : Nat) : Sp := fun vs H Q _ => ∃ (x y : V) (m : Nat), vs = [x, y] ∧ m + 1 = n ∧ Eq2 K H m x y ∧ ∀ H', Same H H' → Q (.bl true) H'
theorem scN_same : FnScope ["actual", "due", "k"] ["actual", "due"] (defScope s_L_same) := ⟨rfl, rfl, rfl, by decide +kernel, rfl, by decide +kernel, by decide +kernel⟩
theorem same_none {f : Addr} {fd : FuncData} {k : Nat} : FnOk P w K mg base CX0 k f fd ["actual", "due"] (spSame K 0) := by
  have no : ∀ vs H Q E, ¬ spSame K 0 vs H Q E := fun vs H Q E h => by
    obtain ⟨x, y, m, _, h1, _⟩ := h
    omega
  exact ⟨fun vs H Q E h => absurd h (no vs H Q E), fun A outer s H args us vs Q E _ _ _ _ h => absurd h (no vs H Q E)⟩
theorem tyS {K : PySem.W.Frag} {H : Hp} {x : V} (h : scal1 x = true) : ∃ t, TyX K H x (.type t) ∧ (x = .non ∧ t = "NoneType" ∨ (∃ b, x = .bl b) ∧ t = "bool" ∨ (∃ i, x = .int i) ∧ t = "int" ∨ (∃ y, x = .str y) ∧ t = "str") := by
  cases x with
  | non => exact ⟨_, .base .non, .inl ⟨rfl, rfl⟩⟩
  | bl b => exact ⟨_, .base (.bl b), .inr (.inl ⟨⟨b, rfl⟩, rfl⟩)⟩
  | int i => exact ⟨_, .base (.int i), .inr (.inr (.inl ⟨⟨i, rfl⟩, rfl⟩))⟩
  | str y => exact ⟨_, .base (.str y), .inr (.inr (.inr ⟨⟨y, rfl⟩, rfl⟩))⟩
  | _ => cases h
theorem ok_same_step (T : Tx K w mg) {n : Nat} (G_L_same : FnOk P w K mg base CX0 (1 + n) T.f_L_same T.d_L_same ["actual", "due"] (spSame K n)) : FnOk P w K mg base CX0 (2 + n) T.f_L_same T.d_L_same ["actual", "due"] (spSame K (n + 1)) := by
  have G_L_is_integer := ok_integer (P := P) (base := base) T
  rw [show 2 + n = (1 + n) + 1 by omega]
  refine T.L_same.F.ok scN_same (fun vs H Q E h => ?_) (fun cdv A outer s H vs Q E hr h => ?_)
  · obtain ⟨x, y, m, rfl, _⟩ := h
    rfl
  · obtain ⟨x, y, m, rfl, hm, hE, q⟩ := h
    have hr1 : Room 1 _ := hr.mono (by omega)
    have em : m = n := by omega
    subst em
    refine ⟨_, (pss_cons (ps_if (pt_val (pe_callB call_isi (by rfl) T.B.isinstance (by decide +kernel) (pa_cons (pv 1) (pa_cons (pe_bltn (by rfl) T.B.tuple (by decide +kernel) (v := .ty "tuple") rfl) pa_nil)))) (pss_cons (ps_if (PW.pt (pw_or (pt_not (pt_val (pe_callB call_isi (by rfl) T.B.isinstance (by decide +kernel) (pa_cons (pv 0) (pa_cons (pe_bltn (by rfl) T.B.tuple (by decide +kernel) (v := .ty "tuple") rfl) pa_nil))))) (pw_or1 (pt_cmpR op_ne (pe_callB call_len_seq (by rfl) T.B.len PySem.boot_len (pa_cons (pv 0) pa_nil)) (pe_callB call_len_seq (by rfl) T.B.len PySem.boot_len (pa_cons (pv 1) pa_nil)) (nomark _))))) (pss_one (ps_ret pe_bl)) pss_nil)
        (pss_one (ps_ret (pe_callB (cr_all rfl) (by rfl) T.B.all (by decide +kernel) (pa_cons (pe_lc (own := [("k", 2)]) (g := gName 2) (tt := tYes) rfl scN_same.nd (pi_range1 rfl T.B.range (pa_cons (pe_callB call_len_seq (by rfl) T.B.len PySem.boot_len (pa_cons (pv 1) pa_nil)) pa_nil)) (blkOk_by (own := [("k", 2)]) (N := ["actual", "due", "k"]) (sc := defScope s_L_same) (by decide +kernel)) (fun _ _ _ _ _ => (pg_name (i := 2) scN_same.nd rfl (.inl rfl))) (fun _ _ _ _ _ => pts_nil) (fun _ _ _ _ _ => (pe_call G_L_same hr (by rfl) T.L_same.g T.L_same.F.kp T.L_same.b .nil pass0 (pa_cons (pe_ix (show IxR _ (rIxT K) from ix_tup) (pv 0) (pv 2) (fun _ _ => rfl)) (pa_cons (pe_ix (show IxR _ (rIxT K) from ix_tup) (pv 1) (pv 2) (fun _ _ => rfl)) pa_nil))))) pa_nil))))) pss_nil)
        (pss_cons (ps_if (pt_val (pe_callB call_isi (by rfl) T.B.isinstance (by decide +kernel) (pa_cons (pv 1) (pa_cons (pe_bltn (by rfl) T.B.list (by decide +kernel) (v := .ty "list") rfl) pa_nil)))) (pss_cons (ps_if (PW.pt (pw_or (pt_not (pt_val (pe_callB call_isi (by rfl) T.B.isinstance (by decide +kernel) (pa_cons (pv 0) (pa_cons (pe_bltn (by rfl) T.B.list (by decide +kernel) (v := .ty "list") rfl) pa_nil))))) (pw_or1 (pt_cmpR op_ne (pe_callB call_len_seq (by rfl) T.B.len PySem.boot_len (pa_cons (pv 0) pa_nil)) (pe_callB call_len_seq (by rfl) T.B.len PySem.boot_len (pa_cons (pv 1) pa_nil)) (nomark _))))) (pss_one (ps_ret pe_bl)) pss_nil)
        (pss_one (ps_ret (pe_callB (cr_all rfl) (by rfl) T.B.all (by decide +kernel) (pa_cons (pe_lc (own := [("k", 2)]) (g := gName 2) (tt := tYes) rfl scN_same.nd (pi_range1 rfl T.B.range (pa_cons (pe_callB call_len_seq (by rfl) T.B.len PySem.boot_len (pa_cons (pv 1) pa_nil)) pa_nil)) (blkOk_by (own := [("k", 2)]) (N := ["actual", "due", "k"]) (sc := defScope s_L_same) (by decide +kernel)) (fun _ _ _ _ _ => (pg_name (i := 2) scN_same.nd rfl (.inl rfl))) (fun _ _ _ _ _ => pts_nil) (fun _ _ _ _ _ => (pe_call G_L_same hr (by rfl) T.L_same.g T.L_same.F.kp T.L_same.b .nil pass0 (pa_cons (pe_ix (show IxR _ (rIxT K) from ix_tup) (pv 0) (pv 2) (fun _ _ => rfl)) (pa_cons (pe_ix (show IxR _ (rIxT K) from ix_tup) (pv 1) (pv 2) (fun _ _ => rfl)) pa_nil))))) pa_nil))))) pss_nil)
        (pss_cons (ps_if (pt_cmpR op_isN (pv 1) pe_non (nomark _)) (pss_one (ps_ret (pe_cmpR op_isN (pv 0) pe_non (nomark _)))) pss_nil)
        (pss_cons (ps_if (pt_val (pe_callB call_isi (by rfl) T.B.isinstance (by decide +kernel) (pa_cons (pv 1) (pa_cons (pe_bltn (by rfl) T.B.bool (by decide +kernel) (v := .ty "bool") rfl) pa_nil)))) (pss_one (ps_ret (pe_and (pe_callB call_isi (by rfl) T.B.isinstance (by decide +kernel) (pa_cons (pv 0) (pa_cons (pe_bltn (by rfl) T.B.bool (by decide +kernel) (v := .ty "bool") rfl) pa_nil))) (pe_one (pe_cmpR op_eq (pv 0) (pv 1) (nomark _)))))) pss_nil)
        (pss_cons (ps_if (pt_val (pe_callB call_isi (by rfl) T.B.isinstance (by decide +kernel) (pa_cons (pv 1) (pa_cons (pe_bltn (by rfl) T.B.str (by decide +kernel) (v := .ty "str") rfl) pa_nil)))) (pss_one (ps_ret (pe_and (pe_callB call_isi (by rfl) T.B.isinstance (by decide +kernel) (pa_cons (pv 0) (pa_cons (pe_bltn (by rfl) T.B.str (by decide +kernel) (v := .ty "str") rfl) pa_nil))) (pe_one (pe_cmpR op_eq (pv 0) (pv 1) (nomark _)))))) pss_nil)
        (pss_one (ps_ret (pe_and (pe_call G_L_is_integer hr1 (by rfl) T.L_is_integer.g T.L_is_integer.F.kp T.L_is_integer.b .nil pass0 (pa_cons (pv 0) pa_nil)) (pe_one (pe_cmpR op_eq (pv 0) (pv 1) (nomark _))))))))))), ?_⟩
    have hs : x = y ∧ scal1 x = true ∨ ∃ (n : Nat) (a b : Addr) (xs ys : List V), m = n + 1 ∧ x = .ref a ∧ y = .ref b ∧ SqT K H a xs ∧ SqT K H b ys ∧ xs.length = ys.length ∧ xs.length ≤ 1000 ∧ ∀ (i : Nat) x y, xs[i]? = some x → ys[i]? = some y → Eq2 K H n x y := by
      cases m with
      | zero => exact .inl hE
      | succ n =>
        rcases hE with h | ⟨a, b, xs, ys, h⟩
        · exact .inl h
        · exact .inr ⟨n, a, b, xs, ys, rfl, h⟩
    rcases hs with ⟨rfl, hx⟩ | ⟨n, a, b, xs, ys, rfl, rfl, rfl, ha, hb, hl, hz, hi⟩
    · have fin : Q (.bl (decide (x = x))) H := by rw [decide_eq_true rfl]; exact q H (Same.refl _)
      have ty : ∀ {t}, TyX K H x (.type t) → TyX K H x (.type t) := fun h => h
      cases x with
      | non =>
        have ht : TyX K H .non (.type "NoneType") := .base .non
        refine ⟨_, rfl, _, _, _, _, false, rfl, .ty _, ht, kit_ty (by decide +kernel), _, rfl, ?_⟩
        refine iteF (A := True) ?_
        refine ⟨_, rfl, _, _, _, _, false, rfl, .ty _, ht, kit_ty (by decide +kernel), _, rfl, ?_⟩
        refine iteF (A := True) ?_
        refine ⟨_, rfl, rfl, _, rfl, ?_⟩
        refine iteT (B := True) ?_
        exact ⟨_, rfl, rfl, q H (Same.refl _)⟩
      | bl v =>
        have ht : TyX K H (.bl v) (.type "bool") := .base (.bl v)
        refine ⟨_, rfl, _, _, _, _, false, rfl, .ty _, ht, kit_ty (by decide +kernel), _, rfl, ?_⟩
        refine iteF (A := True) ?_
        refine ⟨_, rfl, _, _, _, _, false, rfl, .ty _, ht, kit_ty (by decide +kernel), _, rfl, ?_⟩
        refine iteF (A := True) ?_
        refine ⟨_, rfl, rfl, _, rfl, ?_⟩
        refine iteF (A := True) ?_
        refine ⟨_, rfl, _, _, _, _, true, rfl, .ty _, ht, kit_ty (by decide +kernel), _, rfl, ?_⟩
        refine iteT (B := True) ?_
        refine ⟨_, rfl, _, _, _, _, true, rfl, .ty _, ht, kit_ty (by decide +kernel), _, rfl, ?_⟩
        refine iteT (B := True) ?_
        exact ⟨_, rfl, _, rfl, rfl, fin⟩
      | int v =>
        have ht : TyX K H (.int v) (.type "int") := .base (.int v)
        refine ⟨_, rfl, _, _, _, _, false, rfl, .ty _, ht, kit_ty (by decide +kernel), _, rfl, ?_⟩
        refine iteF (A := True) ?_
        refine ⟨_, rfl, _, _, _, _, false, rfl, .ty _, ht, kit_ty (by decide +kernel), _, rfl, ?_⟩
        refine iteF (A := True) ?_
        refine ⟨_, rfl, rfl, _, rfl, ?_⟩
        refine iteF (A := True) ?_
        refine ⟨_, rfl, _, _, _, _, false, rfl, .ty _, ht, kit_ty (by decide +kernel), _, rfl, ?_⟩
        refine iteF (A := True) ?_
        refine ⟨_, rfl, _, _, _, _, false, rfl, .ty _, ht, kit_ty (by decide +kernel), _, rfl, ?_⟩
        refine iteF (A := True) ?_
        refine ⟨_, rfl, v, rfl, _, rfl, ?_⟩
        refine iteT (B := True) ?_
        exact ⟨_, rfl, _, rfl, rfl, fin⟩
      | str v =>
        have ht : TyX K H (.str v) (.type "str") := .base (.str v)
        refine ⟨_, rfl, _, _, _, _, false, rfl, .ty _, ht, kit_ty (by decide +kernel), _, rfl, ?_⟩
        refine iteF (A := True) ?_
        refine ⟨_, rfl, _, _, _, _, false, rfl, .ty _, ht, kit_ty (by decide +kernel), _, rfl, ?_⟩
        refine iteF (A := True) ?_
        refine ⟨_, rfl, rfl, _, rfl, ?_⟩
        refine iteF (A := True) ?_
        refine ⟨_, rfl, _, _, _, _, false, rfl, .ty _, ht, kit_ty (by decide +kernel), _, rfl, ?_⟩
        refine iteF (A := True) ?_
        refine ⟨_, rfl, _, _, _, _, true, rfl, .ty _, ht, kit_ty (by decide +kernel), _, rfl, ?_⟩
        refine iteT (B := True) ?_
        refine ⟨_, rfl, _, _, _, _, true, rfl, .ty _, ht, kit_ty (by decide +kernel), _, rfl, ?_⟩
        refine iteT (B := True) ?_
        exact ⟨_, rfl, _, rfl, rfl, fin⟩
      | byt _ => cases hx
      | flt _ => cases hx
      | ref _ => cases hx
      | ty _ => cases hx
    · refine ⟨_, rfl, _, _, _, _, true, rfl, .ty _, tyT hb, kit_ty (by decide +kernel), _, rfl, ?_⟩
      refine iteT (B := True) ?_
      refine ⟨_, rfl, _, _, _, _, true, rfl, .ty _, tyT ha, kit_ty (by decide +kernel), _, rfl, ?_⟩
      refine iteF (A := True) ?_
      refine ⟨_, rfl, a, _, rfl, .inr ha, _, rfl, b, _, rfl, .inr hb, rfl, _, rfl, ?_⟩
      have el : decide (V.int (xs.length : Nat) = V.int (ys.length : Nat)) = true := decide_eq_true (by rw [hl])
      show if (!decide (V.int (xs.length : Nat) = V.int (ys.length : Nat))) = true then _ else _
      rw [el]
      refine iteF (A := True) ?_
      refine ⟨_, rfl, b, _, rfl, .inr hb, _, rfl, by omega, by omega, fun D hD => ?_⟩
      have kT : ∀ H', Same H H' → KeepT K H H' := fun H' e => Same.keepT e
      refine lc_range (lo := 0) (n := ys.length) (fun i H' => Same H H' ∧ H' D = some (.lst ((List.replicate i true).map V.bl))) ⟨same_new hD _, upd_same⟩ ?_ ?_
      · rintro i H' hi' ⟨sm, hD'⟩
        obtain ⟨u, hu⟩ : ∃ u, xs[i]? = some u := ⟨_, List.getElem?_eq_getElem (by omega)⟩
        obtain ⟨v, hv⟩ : ∃ v, ys[i]? = some v := ⟨_, List.getElem?_eq_getElem hi'⟩
        refine ⟨rfl, _, rfl, _, rfl, a, _, _, u, rfl, rfl, kT _ sm _ _ ha, at_of (j := i) (by omega) hu, _, rfl, _, rfl, b, _, _, v, rfl, rfl, kT _ sm _ _ hb, at_of (j := i) (by omega) hv, u, v, n, rfl, rfl, (hi i u v hu hv).keep (kT _ sm), fun H2 s2 => ?_⟩
        have hD2 := s2 _ _ hD'
        refine ⟨_, hD2, by rw [List.length_map, List.length_replicate]; exact small1000 (by omega), fun c o hc => ?_, ?_⟩
        · rw [upd_ne (ne_of_none hc hD)]; exact s2 _ _ (sm _ _ hc)
        · rw [upd_same, List.replicate_succ', List.map_append]; rfl
      · rintro H' ⟨sm, hD'⟩
        refine ⟨D, _, rfl, SqL.of hD', ?_⟩
        have : (List.replicate ys.length true).all id = true := by simp
        rw [this]
        exact q H' sm
theorem ok_same (T : Tx K w mg) : ∀ n, FnOk P w K mg base CX0 (1 + n) T.f_L_same T.d_L_same ["actual", "due"] (spSame K n)
  | 0 => same_none
  | n + 1 => by
    have := ok_same_step T (ok_same T n)
    rw [show 1 + (n + 1) = 2 + n by omega]
    exact this
end
end Kp
end
section
set_option Elab.async false
set_option linter.all false
set_option maxRecDepth 100000
set_option maxHeartbeats 4000000
namespace Kp
open PySem L2

open Ka
/-! ### attributes by places -/
theorem lookup_zip : ∀ {ns : List Str} {vs : List V} {i : Nat} {k : Str} {v : V}, ns.Nodup → ns[i]? = some k → vs[i]? = some v → (ns.zip vs).lookup k = some v
  | [], _, i, k, v, _, hk, _ => by simp at hk
  | a :: ns, [], i, k, v, _, _, hv => by simp at hv
  | a :: ns, x :: vs, 0, k, v, nd, hk, hv => by
    have e1 : a = k := Option.some.inj hk
    have e2 : x = v := Option.some.inj hv
    subst e1; subst e2
    rw [List.zip_cons_cons, List.lookup_cons_self]
  | a :: ns, x :: vs, i + 1, k, v, nd, hk, hv => by
    obtain ⟨n1, n2⟩ := List.nodup_cons.mp nd
    have ne : (k == a) = false := beq_eq_false_iff_ne.mpr fun z => n1 (by rw [← z]; exact List.mem_of_getElem? (i := i) hk)
    rw [List.zip_cons_cons, List.lookup_cons, ne]
    exact lookup_zip n2 hk hv
theorem lookup_zip_none : ∀ {ns : List Str} {vs : List V} {k : Str}, k ∉ ns → (ns.zip vs).lookup k = none
  | [], _, k, _ => by simp
  | a :: ns, [], k, _ => by simp
  | a :: ns, x :: vs, k, h => by
    have ne : (k == a) = false := beq_eq_false_iff_ne.mpr fun z => h (by simp [z])
    rw [List.zip_cons_cons, List.lookup_cons, ne]
    exact lookup_zip_none fun z => h (by simp [z])
theorem putF_new : ∀ {fs : List (Str × V)} {k : Str} {v : V}, k ∉ fs.map (·.1) → putF k v fs = fs ++ [(k, v)]
  | [], k, v, _ => rfl
  | (a, x) :: fs, k, v, h => by
    have ne : ¬ a = k := fun z => h (by simp [z])
    have ih := putF_new (fs := fs) (k := k) (v := v) fun z => h (by simp [List.mem_map] at z ⊢; exact .inr z)
    show (if a = k then (a, v) :: fs else (a, x) :: putF k v fs) = _
    rw [if_neg ne, ih]; rfl
theorem putF_zip {ns : List Str} {vs : List V} {k : Str} {v : V} (nd : k ∉ ns) (hl : ns.length = vs.length) : putF k v (ns.zip vs) = (ns ++ [k]).zip (vs ++ [v]) := by
  rw [putF_new, List.zip_append hl]; rfl
  intro z
  obtain ⟨p, hp, e⟩ := List.mem_map.mp z
  exact nd (by rw [← e]; exact (List.of_mem_zip hp).1)
/-- a dict of numbers -/
def prK (p : Nat × Nat) : Key × V := (.inl (p.1 : Nat), .int (p.2 : Nat))
theorem val_pr : ∀ (l : List (Nat × Nat)) (k : Nat), valV (l.map prK) (.inl (k : Int) : Key) = (l.lookup k).map fun n => V.int (n : Nat)
  | [], k => rfl
  | (a, b) :: l, k => by
    have ih := val_pr l k
    unfold valV at ih ⊢
    by_cases e : k = a
    · subst e
      rw [List.map_cons, List.find?_cons_of_pos (by exact decide_eq_true rfl), List.lookup_cons_self]; rfl
    · have ne : (k == a) = false := beq_eq_false_iff_ne.mpr e
      rw [List.map_cons, List.find?_cons_of_neg, ih, List.lookup_cons, ne]
      simp only [decide_eq_true_eq]
      intro z
      have : ((a : Nat) : Int) = (k : Int) := Sum.inl.inj z
      omega
theorem lookup_lt {l : List (Nat × Nat)} {k : Nat} (h : ∀ p ∈ l, p.1 < k) : l.lookup k = none := by
  induction l with
  | nil => rfl
  | cons p l ih =>
    obtain ⟨a, b⟩ := p
    have ha := h (a, b) (by simp)
    have ne : (k == a) = false := beq_eq_false_iff_ne.mpr (by simp only at ha; omega)
    rw [List.lookup_cons, ne]
    exact ih fun p hp => h p (by simp [hp])
theorem put_pr {l : List (Nat × Nat)} {k n : Nat} (h : ∀ p ∈ l, p.1 < k) : putK (l.map prK) (.inl (k : Int) : Key) (.int (n : Nat)) = (l ++ [(k, n)]).map prK := by
  rw [putK_new, List.map_append]; rfl
  rw [val_pr, lookup_lt h]; rfl
end Kp
namespace Ka
open PySem
/-- the program's word for a kind -/
def Kd.pw : Kd → Str
  | .prog => "program"
  | .block => "block"
  | .iff => "if"
  | .els => "else"
  | .whl => "while"
end Ka
namespace Kp
open PySem L2 Ka
structure LAd where
  o : Addr
  k : Addr
  s : Addr
  e : Addr
  p : Addr
  d : Addr
  t : Addr
  b : Addr
  n : Addr
namespace LAd
def ms (A : LAd) : List Addr := [A.k, A.s, A.e, A.p, A.d, A.t, A.b, A.n]
end LAd
def ns8 : List Str := ["kinds", "starts", "ends", "parents", "depths", "point_scopes", "begun", "ended"]
theorem ns8_nd : ns8.Nodup := by decide +kernel
def fl8 (A : LAd) : List (Str × V) := ns8.zip [.ref A.k, .ref A.s, .ref A.e, .ref A.p, .ref A.d, .ref A.t, .ref A.b, .ref A.n]
theorem fl8_len (A : LAd) : (fl8 A).length < 1000 := by show 8 < 1000; decide
def opL (l : List (Option Nat)) : HO := .lst (l.map opV)
def ntL (l : List Nat) : HO := .lst (l.map fun n => V.int (n : Nat))
def kdL (l : List Kd) : HO := .lst (l.map fun k => V.str k.pw)
def prD (l : List (Nat × Nat)) : HO := .dK (l.map prK)
/-- a Layout L at A -/
structure LayAt (C : Addr) (H : Hp) (A : LAd) (L : Lay) : Prop where
  o : ∃ dx, H A.o = some (.ins C dx (fl8 A))
  k : H A.k = some (kdL L.kinds)
  s : H A.s = some (opL L.starts)
  e : H A.e = some (opL L.ends)
  p : H A.p = some (opL L.parents)
  d : H A.d = some (ntL L.depths)
  t : H A.t = some (ntL L.pts)
  b : H A.b = some (prD L.begun)
  n : H A.n = some (prD L.ended)
  nd : [A.k, A.s, A.e, A.p, A.d, A.t].Nodup
  bn : A.b ≠ A.n
section
variable {C : Addr} {H : Hp} {A : LAd} {L : Lay}
theorem LayAt.up_k (h : LayAt C H A L) (l : List (Kd)) : LayAt C (upd H A.k (kdL l)) A { L with kinds := l } := by
  obtain ⟨⟨dx, ho⟩, hk, hs, he, hp, hd, ht, hb, hn, nd, bn⟩ := h
  exact ⟨⟨dx, by rw [upd_ne (ne_of ho hk (by intro z; cases z))]; exact ho⟩, upd_same, by rw [upd_ne (fun z => by simp [z] at nd)]; exact hs, by rw [upd_ne (fun z => by simp [z] at nd)]; exact he, by rw [upd_ne (fun z => by simp [z] at nd)]; exact hp, by rw [upd_ne (fun z => by simp [z] at nd)]; exact hd, by rw [upd_ne (fun z => by simp [z] at nd)]; exact ht, by rw [upd_ne (ne_of hb hk (by intro z; cases z))]; exact hb, by rw [upd_ne (ne_of hn hk (by intro z; cases z))]; exact hn, nd, bn⟩
theorem LayAt.up_s (h : LayAt C H A L) (l : List (Option Nat)) : LayAt C (upd H A.s (opL l)) A { L with starts := l } := by
  obtain ⟨⟨dx, ho⟩, hk, hs, he, hp, hd, ht, hb, hn, nd, bn⟩ := h
  exact ⟨⟨dx, by rw [upd_ne (ne_of ho hs (by intro z; cases z))]; exact ho⟩, by rw [upd_ne (fun z => by simp [z] at nd)]; exact hk, upd_same, by rw [upd_ne (fun z => by simp [z] at nd)]; exact he, by rw [upd_ne (fun z => by simp [z] at nd)]; exact hp, by rw [upd_ne (fun z => by simp [z] at nd)]; exact hd, by rw [upd_ne (fun z => by simp [z] at nd)]; exact ht, by rw [upd_ne (ne_of hb hs (by intro z; cases z))]; exact hb, by rw [upd_ne (ne_of hn hs (by intro z; cases z))]; exact hn, nd, bn⟩
theorem LayAt.up_e (h : LayAt C H A L) (l : List (Option Nat)) : LayAt C (upd H A.e (opL l)) A { L with ends := l } := by
  obtain ⟨⟨dx, ho⟩, hk, hs, he, hp, hd, ht, hb, hn, nd, bn⟩ := h
  exact ⟨⟨dx, by rw [upd_ne (ne_of ho he (by intro z; cases z))]; exact ho⟩, by rw [upd_ne (fun z => by simp [z] at nd)]; exact hk, by rw [upd_ne (fun z => by simp [z] at nd)]; exact hs, upd_same, by rw [upd_ne (fun z => by simp [z] at nd)]; exact hp, by rw [upd_ne (fun z => by simp [z] at nd)]; exact hd, by rw [upd_ne (fun z => by simp [z] at nd)]; exact ht, by rw [upd_ne (ne_of hb he (by intro z; cases z))]; exact hb, by rw [upd_ne (ne_of hn he (by intro z; cases z))]; exact hn, nd, bn⟩
theorem LayAt.up_p (h : LayAt C H A L) (l : List (Option Nat)) : LayAt C (upd H A.p (opL l)) A { L with parents := l } := by
  obtain ⟨⟨dx, ho⟩, hk, hs, he, hp, hd, ht, hb, hn, nd, bn⟩ := h
  exact ⟨⟨dx, by rw [upd_ne (ne_of ho hp (by intro z; cases z))]; exact ho⟩, by rw [upd_ne (fun z => by simp [z] at nd)]; exact hk, by rw [upd_ne (fun z => by simp [z] at nd)]; exact hs, by rw [upd_ne (fun z => by simp [z] at nd)]; exact he, upd_same, by rw [upd_ne (fun z => by simp [z] at nd)]; exact hd, by rw [upd_ne (fun z => by simp [z] at nd)]; exact ht, by rw [upd_ne (ne_of hb hp (by intro z; cases z))]; exact hb, by rw [upd_ne (ne_of hn hp (by intro z; cases z))]; exact hn, nd, bn⟩
theorem LayAt.up_d (h : LayAt C H A L) (l : List (Nat)) : LayAt C (upd H A.d (ntL l)) A { L with depths := l } := by
  obtain ⟨⟨dx, ho⟩, hk, hs, he, hp, hd, ht, hb, hn, nd, bn⟩ := h
  exact ⟨⟨dx, by rw [upd_ne (ne_of ho hd (by intro z; cases z))]; exact ho⟩, by rw [upd_ne (fun z => by simp [z] at nd)]; exact hk, by rw [upd_ne (fun z => by simp [z] at nd)]; exact hs, by rw [upd_ne (fun z => by simp [z] at nd)]; exact he, by rw [upd_ne (fun z => by simp [z] at nd)]; exact hp, upd_same, by rw [upd_ne (fun z => by simp [z] at nd)]; exact ht, by rw [upd_ne (ne_of hb hd (by intro z; cases z))]; exact hb, by rw [upd_ne (ne_of hn hd (by intro z; cases z))]; exact hn, nd, bn⟩
theorem LayAt.up_t (h : LayAt C H A L) (l : List (Nat)) : LayAt C (upd H A.t (ntL l)) A { L with pts := l } := by
  obtain ⟨⟨dx, ho⟩, hk, hs, he, hp, hd, ht, hb, hn, nd, bn⟩ := h
  exact ⟨⟨dx, by rw [upd_ne (ne_of ho ht (by intro z; cases z))]; exact ho⟩, by rw [upd_ne (fun z => by simp [z] at nd)]; exact hk, by rw [upd_ne (fun z => by simp [z] at nd)]; exact hs, by rw [upd_ne (fun z => by simp [z] at nd)]; exact he, by rw [upd_ne (fun z => by simp [z] at nd)]; exact hp, by rw [upd_ne (fun z => by simp [z] at nd)]; exact hd, upd_same, by rw [upd_ne (ne_of hb ht (by intro z; cases z))]; exact hb, by rw [upd_ne (ne_of hn ht (by intro z; cases z))]; exact hn, nd, bn⟩
theorem LayAt.up_b (h : LayAt C H A L) (l : List (Nat × Nat)) : LayAt C (upd H A.b (prD l)) A { L with begun := l } := by
  obtain ⟨⟨dx, ho⟩, hk, hs, he, hp, hd, ht, hb, hn, nd, bn⟩ := h
  exact ⟨⟨dx, by rw [upd_ne (ne_of ho hb (by intro z; cases z))]; exact ho⟩, by rw [upd_ne (ne_of hk hb (by intro z; cases z))]; exact hk, by rw [upd_ne (ne_of hs hb (by intro z; cases z))]; exact hs, by rw [upd_ne (ne_of he hb (by intro z; cases z))]; exact he, by rw [upd_ne (ne_of hp hb (by intro z; cases z))]; exact hp, by rw [upd_ne (ne_of hd hb (by intro z; cases z))]; exact hd, by rw [upd_ne (ne_of ht hb (by intro z; cases z))]; exact ht, upd_same, by rw [upd_ne bn.symm]; exact hn, nd, bn⟩
theorem LayAt.up_n (h : LayAt C H A L) (l : List (Nat × Nat)) : LayAt C (upd H A.n (prD l)) A { L with ended := l } := by
  obtain ⟨⟨dx, ho⟩, hk, hs, he, hp, hd, ht, hb, hn, nd, bn⟩ := h
  exact ⟨⟨dx, by rw [upd_ne (ne_of ho hn (by intro z; cases z))]; exact ho⟩, by rw [upd_ne (ne_of hk hn (by intro z; cases z))]; exact hk, by rw [upd_ne (ne_of hs hn (by intro z; cases z))]; exact hs, by rw [upd_ne (ne_of he hn (by intro z; cases z))]; exact he, by rw [upd_ne (ne_of hp hn (by intro z; cases z))]; exact hp, by rw [upd_ne (ne_of hd hn (by intro z; cases z))]; exact hd, by rw [upd_ne (ne_of ht hn (by intro z; cases z))]; exact ht, by rw [upd_ne bn]; exact hb, upd_same, nd, bn⟩
end
end Kp
end
section
set_option Elab.async false
set_option linter.all false
set_option maxRecDepth 100000
set_option maxHeartbeats 4000000
namespace Kp
open PySem L2

open Ka
theorem fl_at (A : LAd) (i : Nat) {k : Str} {v : V} (hk : ns8[i]? = some k) (hv : ([.ref A.k, .ref A.s, .ref A.e, .ref A.p, .ref A.d, .ref A.t, .ref A.b, .ref A.n] : List V)[i]? = some v) : (fl8 A).lookup k = some v := lookup_zip ns8_nd hk hv
theorem fl_no (A : LAd) {k : Str} (h : k ∉ ns8) : (fl8 A).lookup k = none := lookup_zip_none h
/-- a layout that can go on -/
structure Lay.Wf (L : Lay) : Prop where
  ne : L.pts ≠ []
  lt : L.cur < L.kinds.length
  ls : L.starts.length = L.kinds.length
  le : L.ends.length = L.kinds.length
  lp : L.parents.length = L.kinds.length
  ld : L.depths.length = L.kinds.length
  b : ∀ p ∈ L.begun, p.1 < L.line
  n : ∀ p ∈ L.ended, p.1 < L.line
  z : L.kinds.length ≤ 500
  y : L.pts.length ≤ 500
  bz : L.begun.length ≤ 500
  nz : L.ended.length ≤ 500
theorem Lay.cur_snoc {L : Lay} (h : L.pts ≠ []) : ∃ init, L.pts = init ++ [L.cur] := by
  refine ⟨L.pts.dropLast, ?_⟩
  have e := List.dropLast_concat_getLast h
  unfold Lay.cur
  rw [List.getLast?_eq_some_getLast h]
  exact e.symm
section
variable {P : Program} {w : World} {K : PySem.W.Frag} {mg : Str → Option Value} {base : Heap}
def spInner (C : Addr) : Sp := fun vs H Q _ => ∃ (A : LAd) (L : Lay), vs = [.ref A.o] ∧ LayAt C H A L ∧ L.pts ≠ [] ∧ Q (.int (L.cur : Nat)) H
theorem scN_inner : FnScope ["self"] ["self"] (defScope s_Layout_innermost) := ⟨rfl, rfl, rfl, by decide +kernel, rfl, by decide +kernel, by decide +kernel⟩
theorem ok_inner (T : Tx K w mg) : FnOk P w K mg base CX0 1 T.f_Layout_innermost T.d_Layout_innermost ["self"] (spInner T.C_Layout) := by
  refine T.Layout_innermost.F.ok scN_inner (fun vs H Q E h => ?_) (fun cdv A outer s H vs Q E hr h => ?_)
  · obtain ⟨A, L, rfl, _⟩ := h
    rfl
  · obtain ⟨A, L, rfl, h, ne, q⟩ := h
    obtain ⟨dx, ho⟩ := h.o
    refine ⟨_, (pss_one (ps_ret (pe_ix ix_list (pe_fld (pv 0) rfl) (pe_un un_neg pe_int) (fun _ _ => rfl)))), ?_⟩
    obtain ⟨init, ei⟩ := Lay.cur_snoc ne
    have ht := h.t
    unfold ntL at ht
    refine ⟨_, rfl, A.o, _, dx, _, _, rfl, ho, T.cl_Layout, T.n_Layout_point_scopes, fl_at A 5 rfl rfl, 1, rfl, A.t, _, -1, _, rfl, rfl, SqL.of ht, ?_, q⟩
    rw [ei, List.map_append]; exact atI_last _ _
def spBegin (C : Addr) : Sp := fun vs H Q _ => ∃ (A : LAd) (L : Lay) (k : Kd) (p : Nat), vs = [.ref A.o, .str k.pw, .int (L.line : Nat), .int (p : Nat)] ∧ LayAt C H A L ∧ p < L.depths.length ∧ (∀ q ∈ L.begun, q.1 < L.line) ∧ L.kinds.length ≤ 500 ∧ L.starts.length ≤ 500 ∧ L.ends.length ≤ 500 ∧ L.parents.length ≤ 500 ∧ L.depths.length ≤ 500 ∧ L.begun.length ≤ 500 ∧
  ∀ H', But A.ms H H' → LayAt C H' A (L.begin_ k p) → Q (.int (L.kinds.length : Nat)) H'
theorem scN_begin : FnScope ["self", "word", "line", "parent", "scope"] ["self", "word", "line", "parent"] (defScope s_Layout_begin) := ⟨rfl, rfl, rfl, by decide +kernel, rfl, by decide +kernel, by decide +kernel⟩
theorem ok_begin (T : Tx K w mg) : FnOk P w K mg base CX0 1 T.f_Layout_begin T.d_Layout_begin ["self", "word", "line", "parent"] (spBegin T.C_Layout) := by
  refine T.Layout_begin.F.ok scN_begin (fun vs H Q E h => ?_) (fun cdv A outer s H vs Q E hr h => ?_)
  · obtain ⟨A, L, k, p, rfl, _⟩ := h
    rfl
  · obtain ⟨A, L, k, p, rfl, h, hp, hb, z1, z2, z3, z4, z5, z6, q⟩ := h
    have hu := hu_of hr
    refine ⟨_, (pss_cons (ps_set (i := 4) scN_begin.nd rfl (.inl rfl) (pe_callB call_len_seq (by rfl) T.B.len PySem.boot_len (pa_cons (pe_fld (pv 0) rfl) pa_nil)))
        (pss_cons (ps_expr (pe_bm PySem.F.plainAttrs_list PySem.F.slot_list_append PySem.F.type_list_append mt_append (pe_fld (pv 0) rfl) (pa_cons (pv 1) pa_nil)))
        (pss_cons (ps_expr (pe_bm PySem.F.plainAttrs_list PySem.F.slot_list_append PySem.F.type_list_append mt_append (pe_fld (pv 0) rfl) (pa_cons (pv 2) pa_nil)))
        (pss_cons (ps_expr (pe_bm PySem.F.plainAttrs_list PySem.F.slot_list_append PySem.F.type_list_append mt_append (pe_fld (pv 0) rfl) (pa_cons pe_non pa_nil)))
        (pss_cons (ps_expr (pe_bm PySem.F.plainAttrs_list PySem.F.slot_list_append PySem.F.type_list_append mt_append (pe_fld (pv 0) rfl) (pa_cons (pv 3) pa_nil)))
        (pss_cons (ps_expr (pe_bm PySem.F.plainAttrs_list PySem.F.slot_list_append PySem.F.type_list_append mt_append (pe_fld (pv 0) rfl) (pa_cons (pe_op op_add (pe_ix ix_list (pe_fld (pv 0) rfl) (pv 3) (fun _ _ => rfl)) pe_int) pa_nil)))
        (pss_cons (ps_dput hu (pe_fld (pv 0) rfl) (pv 2) (pv 4) rfl)
        (pss_one (ps_ret (pv 4)))))))))), ?_⟩
    have so : ∀ {L' : Lay} {H' : Hp}, LayAt T.C_Layout H' A L' → ∃ dx, H' A.o = some (.ins T.C_Layout dx (fl8 A)) := fun h => h.o
    obtain ⟨dx, ho⟩ := h.o
    -- scope = len(self.kinds)
    refine ⟨_, rfl, A.o, _, dx, _, _, rfl, ho, T.cl_Layout, T.n_Layout_kinds, fl_at A 0 rfl rfl, A.k, _, rfl, .inl (SqL.of h.k), ?_⟩
    rw [List.length_map]
    -- self.kinds.append(word)
    refine ⟨_, rfl, A.o, _, dx, _, _, rfl, ho, T.cl_Layout, T.n_Layout_kinds, fl_at A 0 rfl rfl, .inl ⟨rfl, _, SqL.of h.k⟩, _, rfl, A.k, _, _, rfl, rfl, h.k, by rw [List.length_map]; exact small1000 (by omega), ?_⟩
    have h1 := h.up_k (L.kinds ++ [k])
    have b1 : But A.ms H (upd H A.k (kdL (L.kinds ++ [k]))) := But.upd (by simp [LAd.ms]) _
    rw [show HO.lst (L.kinds.map (fun k => V.str k.pw) ++ [.str k.pw]) = kdL (L.kinds ++ [k]) by unfold kdL; rw [List.map_append]; rfl]
    generalize upd H A.k (kdL (L.kinds ++ [k])) = H1 at h1 b1 ⊢
    obtain ⟨dx1, ho1⟩ := h1.o
    refine ⟨_, rfl, A.o, _, dx1, _, _, rfl, ho1, T.cl_Layout, T.n_Layout_starts, fl_at A 1 rfl rfl, .inl ⟨rfl, _, SqL.of h1.s⟩, _, rfl, A.s, _, _, rfl, rfl, h1.s, by rw [List.length_map]; exact small1000 (by show L.starts.length ≤ 1000; omega), ?_⟩
    have h2 := h1.up_s (L.starts ++ [some L.line])
    have b2 : But A.ms H1 (upd H1 A.s (opL (L.starts ++ [some L.line]))) := But.upd (by simp [LAd.ms]) _
    rw [show HO.lst (L.starts.map opV ++ [.int (L.line : Nat)]) = opL (L.starts ++ [some L.line]) by unfold opL; rw [List.map_append]; rfl]
    generalize upd H1 A.s (opL (L.starts ++ [some L.line])) = H2 at h2 b2 ⊢
    obtain ⟨dx2, ho2⟩ := h2.o
    refine ⟨_, rfl, A.o, _, dx2, _, _, rfl, ho2, T.cl_Layout, T.n_Layout_ends, fl_at A 2 rfl rfl, .inl ⟨rfl, _, SqL.of h2.e⟩, A.e, _, _, rfl, rfl, h2.e, by rw [List.length_map]; exact small1000 (by show L.ends.length ≤ 1000; omega), ?_⟩
    have h3 := h2.up_e (L.ends ++ [none])
    have b3 : But A.ms H2 (upd H2 A.e (opL (L.ends ++ [none]))) := But.upd (by simp [LAd.ms]) _
    rw [show HO.lst (L.ends.map opV ++ [.non]) = opL (L.ends ++ [none]) by unfold opL; rw [List.map_append]; rfl]
    generalize upd H2 A.e (opL (L.ends ++ [none])) = H3 at h3 b3 ⊢
    obtain ⟨dx3, ho3⟩ := h3.o
    refine ⟨_, rfl, A.o, _, dx3, _, _, rfl, ho3, T.cl_Layout, T.n_Layout_parents, fl_at A 3 rfl rfl, .inl ⟨rfl, _, SqL.of h3.p⟩, _, rfl, A.p, _, _, rfl, rfl, h3.p, by rw [List.length_map]; exact small1000 (by show L.parents.length ≤ 1000; omega), ?_⟩
    have h4 := h3.up_p (L.parents ++ [some p])
    have b4 : But A.ms H3 (upd H3 A.p (opL (L.parents ++ [some p]))) := But.upd (by simp [LAd.ms]) _
    rw [show HO.lst (L.parents.map opV ++ [.int (p : Nat)]) = opL (L.parents ++ [some p]) by unfold opL; rw [List.map_append]; rfl]
    generalize upd H3 A.p (opL (L.parents ++ [some p])) = H4 at h4 b4 ⊢
    obtain ⟨dx4, ho4⟩ := h4.o
    refine ⟨_, rfl, A.o, _, dx4, _, _, rfl, ho4, T.cl_Layout, T.n_Layout_depths, fl_at A 4 rfl rfl, .inl ⟨rfl, _, SqL.of h4.d⟩, _, rfl, A.o, _, dx4, _, _, rfl, ho4, T.cl_Layout, T.n_Layout_depths, fl_at A 4 rfl rfl, _, rfl, A.d, _, _, .int (L.depths[p] : Nat), rfl, rfl, SqL.of h4.d, atI_nat (by rw [List.getElem?_map]; show (L.depths[p]?).map _ = _; rw [List.getElem?_eq_getElem hp]; rfl), _, _, rfl, rfl, A.d, _, _, rfl, rfl, h4.d, by rw [List.length_map]; exact small1000 (by show L.depths.length ≤ 1000; omega), ?_⟩
    have ed : L.depths.getD p 0 = L.depths[p] := by rw [List.getD_eq_getElem?_getD, List.getElem?_eq_getElem hp]; rfl
    have h5 := h4.up_d (L.depths ++ [L.depths.getD p 0 + 1])
    have b5 : But A.ms H4 (upd H4 A.d (ntL (L.depths ++ [L.depths.getD p 0 + 1]))) := But.upd (by simp [LAd.ms]) _
    rw [show HO.lst (L.depths.map (fun n => V.int (n : Nat)) ++ [.int ((L.depths[p] : Nat) + 1)]) = ntL (L.depths ++ [L.depths.getD p 0 + 1]) by unfold ntL; rw [List.map_append, ed]; rfl]
    generalize upd H4 A.d (ntL (L.depths ++ [L.depths.getD p 0 + 1])) = H5 at h5 b5 ⊢
    obtain ⟨dx5, ho5⟩ := h5.o
    have pz := DPut.k (k := (.inl (L.line : Nat) : Key)) (v := .int (L.kinds.length : Nat)) h5.b (by rw [List.length_map]; exact small1000 (by show L.begun.length ≤ 1000; omega))
    rw [show putK (L.begun.map prK) (.inl (L.line : Nat) : Key) (.int (L.kinds.length : Nat)) = (L.begun ++ [(L.line, L.kinds.length)]).map prK from put_pr hb] at pz
    refine ⟨_, rfl, _, rfl, A.o, _, dx5, _, _, rfl, ho5, T.cl_Layout, T.n_Layout_begun, fl_at A 6 rfl rfl, _, rfl, A.b, _, rfl, pz, ?_⟩
    have h6 := h5.up_b (L.begun ++ [(L.line, L.kinds.length)])
    have b6 : But A.ms H5 (upd H5 A.b (prD (L.begun ++ [(L.line, L.kinds.length)]))) := But.upd (by simp [LAd.ms]) _
    exact ⟨_, rfl, q _ (((((b1.trans b2).trans b3).trans b4).trans b5).trans b6) h6⟩
end
end Kp
end
section
set_option Elab.async false
set_option linter.all false
set_option maxRecDepth 100000
set_option maxHeartbeats 4000000
namespace Kp
open PySem L2

open Ka
def Stm.isEnd : Stm → Bool
  | .els => true
  | .fin => true
  | _ => false
def Stm.begins : Stm → Option Kd
  | .block => some .block
  | .iff => some .iff
  | .els => some .els
  | .whl => some .whl
  | _ => none
def plainW : List Str := ["number", "copy", "pair", "head", "tail", "print"]
theorem plain_word (l : Ln) : (Stm.pl l).word ∈ plainW := by cases l <;> simp [Stm.word, plainW]
theorem in_enders (s : Stm) : inV (V.str s.word) [.str ("else" : Str), .str ("end" : Str)] = Stm.isEnd s := by
  cases s with
  | pl l => exact (show ∀ w ∈ plainW, inV (V.str w) [.str ("else" : Str), .str ("end" : Str)] = false by decide +kernel) _ (plain_word l)
  | _ => decide +kernel
theorem in_beginners (s : Stm) : inV (V.str s.word) [.str ("block" : Str), .str ("if" : Str), .str ("else" : Str), .str ("while" : Str)] = (Stm.begins s).isSome := by
  cases s with
  | pl l => exact (show ∀ w ∈ plainW, inV (V.str w) [.str ("block" : Str), .str ("if" : Str), .str ("else" : Str), .str ("while" : Str)] = false by decide +kernel) _ (plain_word l)
  | _ => decide +kernel
theorem begins_word {s : Stm} {k : Kd} (h : Stm.begins s = some k) : s.word = k.pw := by
  cases s <;> first | (cases h; rfl) | cases h
theorem word_else (s : Stm) : decide (V.str s.word = V.str ("else" : Str)) = (match s with | .els => true | _ => false) := by
  cases s with
  | pl l => exact (show ∀ w ∈ plainW, decide (V.str w = V.str ("else" : Str)) = false by decide +kernel) _ (plain_word l)
  | _ => decide +kernel
theorem word_end (s : Stm) : decide (V.str s.word = V.str ("end" : Str)) = (match s with | .fin => true | _ => false) := by
  cases s with
  | pl l => exact (show ∀ w ∈ plainW, decide (V.str w = V.str ("end" : Str)) = false by decide +kernel) _ (plain_word l)
  | _ => decide +kernel
theorem pw_if (k : Kd) : decide (V.str k.pw = V.str ("if" : Str)) = decide (k = .iff) := by cases k <;> decide +kernel
/-- a line of this kind fits -/
def Lay.fits (L : Lay) : Stm → Prop
  | .els => L.kinds[L.cur]? = some .iff
  | .fin => L.cur ≠ 0 ∧ ∃ k, L.kinds[L.cur]? = some k ∧ k ≠ .iff
  | _ => True
section
variable {P : Program} {w : World} {K : PySem.W.Frag} {mg : Str → Option Value} {base : Heap}
def spMisfit (C : Addr) : Sp := fun vs H Q _ => ∃ (A : LAd) (L : Lay) (s : Stm), vs = [.ref A.o, .str s.word] ∧ LayAt C H A L ∧ L.pts ≠ [] ∧ L.cur < L.kinds.length ∧ Lay.fits L s ∧ Q .non H
theorem scN_misfit : FnScope ["self", "word", "scope"] ["self", "word"] (defScope s_Layout_misfit) := ⟨rfl, rfl, rfl, by decide +kernel, rfl, by decide +kernel, by decide +kernel⟩
theorem ok_misfit (T : Tx K w mg) : FnOk P w K mg base CX0 2 T.f_Layout_misfit T.d_Layout_misfit ["self", "word"] (spMisfit T.C_Layout) := by
  have G_Layout_innermost := ok_inner (P := P) (base := base) T
  refine T.Layout_misfit.F.ok scN_misfit (fun vs H Q E h => ?_) (fun cdv A outer s H vs Q E hr h => ?_)
  · obtain ⟨A, L, s, rfl, _⟩ := h
    rfl
  · obtain ⟨A, L, st, rfl, h, ne, lt, hf, q⟩ := h
    obtain ⟨dx, ho⟩ := h.o
    refine ⟨_, (pss_cons (ps_set (i := 2) scN_misfit.nd rfl (.inl rfl) (pe_meth0 (pv 0) T.cl_Layout T.Layout_innermost.m G_Layout_innermost hr T.Layout_innermost.b .nil pass0))
        (pss_cons (ps_if (PW.pt (pw_and (pt_cmpR op_eq (pv 1) pe_str (nomark _)) (pw_and1 (pt_cmpR op_ne (pe_ix ix_list (pe_fld (pv 0) rfl) (pv 2) (fun _ _ => rfl)) pe_str (nomark _))))) (pss_one (ps_ret pe_str)) pss_nil)
        (pss_cons (ps_if (PW.pt (pw_and (pt_cmpR op_eq (pv 1) pe_str (nomark _)) (pw_and1 (pt_cmpR op_eq (pv 2) pe_int (nomark _))))) (pss_one (ps_ret pe_str)) pss_nil)
        (pss_cons (ps_if (PW.pt (pw_and (pt_cmpR op_eq (pv 1) pe_str (nomark _)) (pw_and1 (pt_cmpR op_eq (pe_ix ix_list (pe_fld (pv 0) rfl) (pv 2) (fun _ _ => rfl)) pe_str (nomark _))))) (pss_one (ps_ret pe_str)) pss_nil)
        (pss_one (ps_ret pe_non)))))), ?_⟩
    refine ⟨_, rfl, A.o, dx, _, rfl, ho, fl_no A (by decide +kernel), A, L, rfl, h, ne, ?_⟩
    have hk := h.k
    unfold kdL at hk
    have ka : atI (L.kinds.map fun k => V.str k.pw) (L.cur : Nat) = some (.str (L.kinds[L.cur]).pw) := atI_nat (by rw [List.getElem?_map, List.getElem?_eq_getElem lt]; rfl)
    refine ⟨_, rfl, rfl, _, rfl, ?_⟩
    rw [word_else]
    have part2 : ∀ (X : Prop), (∀ Y : Prop, (Y → Y) → True) → True := fun _ _ => trivial
    cases st with
    | els =>
      refine iteT (B := True) ?_
      have e : L.kinds[L.cur] = .iff := by rw [Lay.fits, List.getElem?_eq_getElem lt] at hf; exact Option.some.inj hf
      refine ⟨_, rfl, A.o, _, dx, _, _, rfl, ho, T.cl_Layout, T.n_Layout_kinds, fl_at A 0 rfl rfl, _, rfl, A.k, _, _, _, rfl, rfl, SqL.of hk, ka, rfl, _, rfl, ?_⟩
      rw [pw_if, e]
      refine iteF (A := True) ?_
      refine ⟨_, rfl, rfl, _, rfl, ?_⟩
      refine iteF (A := True) ?_
      refine ⟨_, rfl, rfl, _, rfl, ?_⟩
      refine iteF (A := True) ?_
      exact q
    | fin =>
      refine iteF (A := True) ?_
      refine ⟨_, rfl, rfl, _, rfl, ?_⟩
      refine iteT (B := True) ?_
      obtain ⟨h0, k, hk1, hk2⟩ := hf
      have e : L.kinds[L.cur] = k := by rw [List.getElem?_eq_getElem lt] at hk1; exact Option.some.inj hk1
      refine ⟨_, rfl, rfl, _, rfl, ?_⟩
      rw [show decide (V.int (L.cur : Nat) = V.int 0) = false from decide_eq_false (by intro z; injection z with z; exact h0 (by omega))]
      refine iteF (A := True) ?_
      refine ⟨_, rfl, rfl, _, rfl, ?_⟩
      refine iteT (B := True) ?_
      refine ⟨_, rfl, A.o, _, dx, _, _, rfl, ho, T.cl_Layout, T.n_Layout_kinds, fl_at A 0 rfl rfl, _, rfl, A.k, _, _, _, rfl, rfl, SqL.of hk, ka, rfl, _, rfl, ?_⟩
      rw [pw_if, e, decide_eq_false hk2]
      refine iteF (A := True) ?_
      exact q
    | pl l =>
      refine iteF (A := True) ?_
      refine ⟨_, rfl, rfl, _, rfl, ?_⟩
      rw [word_end]
      refine iteF (A := True) ?_
      refine ⟨_, rfl, rfl, _, rfl, ?_⟩
      rw [word_end]
      refine iteF (A := True) ?_
      exact q
    | block =>
      refine iteF (A := True) ?_
      refine ⟨_, rfl, rfl, _, rfl, ?_⟩
      rw [word_end]
      refine iteF (A := True) ?_
      refine ⟨_, rfl, rfl, _, rfl, ?_⟩
      rw [word_end]
      refine iteF (A := True) ?_
      exact q
    | iff =>
      refine iteF (A := True) ?_
      refine ⟨_, rfl, rfl, _, rfl, ?_⟩
      rw [word_end]
      refine iteF (A := True) ?_
      refine ⟨_, rfl, rfl, _, rfl, ?_⟩
      rw [word_end]
      refine iteF (A := True) ?_
      exact q
    | whl =>
      refine iteF (A := True) ?_
      refine ⟨_, rfl, rfl, _, rfl, ?_⟩
      rw [word_end]
      refine iteF (A := True) ?_
      refine ⟨_, rfl, rfl, _, rfl, ?_⟩
      rw [word_end]
      refine iteF (A := True) ?_
      exact q
def spTake2 (C : Addr) : Sp := fun vs H Q _ => ∃ (A : LAd) (L : Lay) (s : Stm), vs = [.ref A.o, .str s.word] ∧ LayAt C H A L ∧ Lay.Wf L ∧ (Stm.isEnd s = true → ∃ p, L.parents[L.cur]? = some (some p) ∧ p < L.kinds.length) ∧
  ∀ H', But A.ms H H' → LayAt C H' A (L.take s) → Q .non H'
theorem scN_take2 : FnScope ["self", "word", "line", "scope"] ["self", "word"] (defScope s_Layout_take) := ⟨rfl, rfl, rfl, by decide +kernel, rfl, by decide +kernel, by decide +kernel⟩
theorem ok_take2 (T : Tx K w mg) : FnOk P w K mg base CX0 2 T.f_Layout_take T.d_Layout_take ["self", "word"] (spTake2 T.C_Layout) := by
  have G_Layout_innermost := ok_inner (P := P) (base := base) T
  have G_Layout_begin := ok_begin (P := P) (base := base) T
  refine T.Layout_take.F.ok scN_take2 (fun vs H Q E h => ?_) (fun cdv A outer s H vs Q E hr h => ?_)
  · obtain ⟨A, L, s, rfl, _⟩ := h
    rfl
  · obtain ⟨A, L, st, rfl, h, wf, hup, q⟩ := h
    have hu := hu_of hr
    obtain ⟨dx, ho⟩ := h.o
    refine ⟨_, (Evl.pss_cut (ps_set (i := 2) scN_take2.nd rfl (.inl rfl) (pe_op op_sub (pe_callB call_len_seq (by rfl) T.B.len PySem.boot_len (pa_cons (pe_fld (pv 0) rfl) pa_nil)) pe_int))
        (pss_cons (ps_set (i := 3) scN_take2.nd rfl (.inl rfl) (pe_meth0 (pv 0) T.cl_Layout T.Layout_innermost.m G_Layout_innermost hr T.Layout_innermost.b .nil pass0))
        (Evl.pss_cut (ps_if (pt_cmpR op_in_seq (pv 1) (pe_glob (v := .ref T.a_ENDERS) rfl T.k_ENDERS rfl) (by rfl)) (pss_cons (ps_asg (pv 2) (pg_sub (pe_fld (pv 0) rfl) (pv 3) set_list))
        (pss_cons (ps_dput hu (pe_fld (pv 0) rfl) (pv 2) (pv 3) rfl)
        (pss_one (ps_set (i := 3) scN_take2.nd rfl (.inl rfl) (pe_ix ix_list (pe_fld (pv 0) rfl) (pv 3) (fun _ _ => rfl)))))) pss_nil)
        (Evl.pss_cut (ps_if (pt_cmpR op_in_seq (pv 1) (pe_glob (v := .ref T.a_BEGINNERS) rfl T.k_BEGINNERS rfl) (by rfl)) (pss_one (ps_set (i := 3) scN_take2.nd rfl (.inl rfl) (pe_meth (pv 0) T.cl_Layout T.Layout_begin.m G_Layout_begin hr T.Layout_begin.b .nil pass0 (pa_cons (pv 1) (pa_cons (pv 2) (pa_cons (pv 3) pa_nil)))))) pss_nil)
        (pss_one (ps_expr (pe_bm PySem.F.plainAttrs_list PySem.F.slot_list_append PySem.F.type_list_append mt_append (pe_fld (pv 0) rfl) (pa_cons (pv 3) pa_nil)))))))), ?_⟩
    have hlen : 0 < L.pts.length := List.length_pos_iff.mpr wf.ne
    have hline : ((L.pts.length : Nat) : Int) - 1 = ((L.line : Nat) : Int) := by show _ = ((L.pts.length - 1 : Nat) : Int); omega
    -- line, scope
    refine ⟨fun σ' H' => σ' = [some (.ref A.o), some (.str st.word), some (.int (L.line : Nat)), none] ∧ H' = H, ⟨_, rfl, A.o, _, dx, _, _, rfl, ho, T.cl_Layout, T.n_Layout_point_scopes, fl_at A 5 rfl rfl, A.t, _, rfl, .inl (SqL.of h.t), _, _, rfl, rfl, ?_, rfl⟩, ?_⟩
    · show [some (V.ref A.o), some (V.str st.word), some (V.int (((L.pts.map fun n => V.int (n : Nat)).length : Nat) - 1)), none] = _
      rw [List.length_map, hline]
    rintro _ H ⟨rfl, rfl⟩
    refine ⟨_, rfl, A.o, dx, _, rfl, ho, fl_no A (by decide +kernel), A, L, rfl, h, wf.ne, ?_⟩
    -- if word in ENDERS
    refine ⟨fun σ' H' => ∃ (L1 : Lay) (s1 : Nat), σ' = [some (.ref A.o), some (.str st.word), some (.int (L.line : Nat)), some (.int (s1 : Nat))] ∧ LayAt T.C_Layout H' A L1 ∧ But A.ms H H' ∧ (if Stm.isEnd st = true then L1 = L.end_ ∧ s1 = L.up else L1 = L ∧ s1 = L.cur), ?_, ?_⟩
    · refine ⟨_, rfl, T.a_ENDERS, _, rfl, .inr (T.t_ENDERS H), rfl, rfl, _, rfl, ?_⟩
      show (if inV (V.str st.word) [.str ("else" : Str), .str ("end" : Str)] = true then _ else _)
      rw [in_enders]
      refine ite2 (fun he => ?_) (fun he => ⟨L, L.cur, rfl, h, But.refl _ _, by rw [if_neg he]; exact ⟨rfl, rfl⟩⟩)
      obtain ⟨p, hp, hp2⟩ := hup he
      have hlt : L.cur < L.ends.length := by rw [wf.le]; exact wf.lt
      refine ⟨_, rfl, _, rfl, A.o, _, dx, _, _, rfl, ho, T.cl_Layout, T.n_Layout_ends, fl_at A 2 rfl rfl, _, rfl, A.e, _, _, L.cur, rfl, rfl, h.e, ?_, ?_⟩
      · rw [List.length_map]; unfold ixN; rw [if_pos (by omega), if_pos (by omega)]; rfl
      have h1 := h.up_e (L.ends.set L.cur (some L.line))
      have b1 : But A.ms H (upd H A.e (opL (L.ends.set L.cur (some L.line)))) := But.upd (by simp [LAd.ms]) _
      rw [show HO.lst ((L.ends.map opV).set L.cur (.int (L.line : Nat))) = opL (L.ends.set L.cur (some L.line)) by unfold opL; rw [List.map_set]; rfl]
      generalize upd H A.e (opL (L.ends.set L.cur (some L.line))) = H1 at h1 b1 ⊢
      obtain ⟨dx1, ho1⟩ := h1.o
      have pz := DPut.k (k := (.inl (L.line : Nat) : Key)) (v := .int (L.cur : Nat)) h1.n (by rw [List.length_map]; have := wf.nz; exact small1000 (by show L.ended.length ≤ 1000; omega))
      rw [show putK (L.ended.map prK) (.inl (L.line : Nat) : Key) (.int (L.cur : Nat)) = (L.ended ++ [(L.line, L.cur)]).map prK from put_pr wf.n] at pz
      refine ⟨_, rfl, _, rfl, A.o, _, dx1, _, _, rfl, ho1, T.cl_Layout, T.n_Layout_ended, fl_at A 7 rfl rfl, _, rfl, A.n, _, rfl, pz, ?_⟩
      have h2 := h1.up_n (L.ended ++ [(L.line, L.cur)])
      have b2 : But A.ms H1 (upd H1 A.n (prD (L.ended ++ [(L.line, L.cur)]))) := But.upd (by simp [LAd.ms]) _
      show _
      generalize hH2 : upd H1 A.n (HO.dK ((L.ended ++ [(L.line, L.cur)]).map prK)) = H2
      have h2' : LayAt T.C_Layout H2 A L.end_ := by rw [← hH2]; exact h2
      have b2' : But A.ms H1 H2 := by rw [← hH2]; exact b2
      obtain ⟨dx2, ho2⟩ := h2'.o
      have hpl : L.cur < L.parents.length := (List.getElem?_eq_some_iff.mp hp).1
      refine ⟨_, rfl, A.o, _, dx2, _, _, rfl, ho2, T.cl_Layout, T.n_Layout_parents, fl_at A 3 rfl rfl, _, rfl, A.p, _, _, .int (p : Nat), rfl, rfl, SqL.of h2'.p, atI_nat (by rw [List.getElem?_map]; show (L.parents[L.cur]?).map opV = _; rw [hp]; rfl), ?_⟩
      exact ⟨L.end_, p, rfl, h2', b1.trans b2', by rw [if_pos he]; exact ⟨rfl, by show p = ((L.parents[L.cur]?).getD none).getD 0; rw [hp]; rfl⟩⟩
    · rintro σ' H1 ⟨L1, s1, rfl, h1, b1, hc⟩
      have k1 : L1.kinds = L.kinds ∧ L1.starts = L.starts ∧ L1.ends.length = L.ends.length ∧ L1.parents = L.parents ∧ L1.depths = L.depths ∧ L1.begun = L.begun ∧ L1.line = L.line ∧ L1.pts = L.pts := by
        by_cases he : Stm.isEnd st = true
        · rw [if_pos he] at hc; obtain ⟨rfl, _⟩ := hc; exact ⟨rfl, rfl, List.length_set, rfl, rfl, rfl, rfl, rfl⟩
        · rw [if_neg he] at hc; obtain ⟨rfl, _⟩ := hc; exact ⟨rfl, rfl, rfl, rfl, rfl, rfl, rfl, rfl⟩
      obtain ⟨e1, e2, e3, e4, e5, e6, e7, e8⟩ := k1
      have hs1 : s1 < L.kinds.length := by
        by_cases he : Stm.isEnd st = true
        · rw [if_pos he] at hc; obtain ⟨_, rfl⟩ := hc
          obtain ⟨p, hp, hp2⟩ := hup he
          show ((L.parents[L.cur]?).getD none).getD 0 < _
          rw [hp]; exact hp2
        · rw [if_neg he] at hc; obtain ⟨_, rfl⟩ := hc; exact wf.lt
      refine ⟨fun σ' H' => ∃ (L2 : Lay) (s2 : Nat), σ' = [some (.ref A.o), some (.str st.word), some (.int (L.line : Nat)), some (.int (s2 : Nat))] ∧ LayAt T.C_Layout H' A L2 ∧ But A.ms H H' ∧ L2.pts = L.pts ∧ L2.push s2 = L.take st, ?_, ?_⟩
      · refine ⟨_, rfl, T.a_BEGINNERS, _, rfl, .inr (T.t_BEGINNERS H1), rfl, rfl, _, rfl, ?_⟩
        show (if inV (V.str st.word) [.str ("block" : Str), .str ("if" : Str), .str ("else" : Str), .str ("while" : Str)] = true then _ else _)
        rw [in_beginners]
        refine ite2 (fun hb => ?_) (fun hb => ⟨L1, s1, rfl, h1, b1, e8, ?_⟩)
        · obtain ⟨k, hk⟩ := Option.isSome_iff_exists.mp hb
          obtain ⟨dx1, ho1⟩ := h1.o
          have wz := wf.z
          refine ⟨_, rfl, A.o, dx1, _, rfl, ho1, fl_no A (by decide +kernel), _, rfl, _, rfl, _, rfl, A, L1, k, s1, by rw [← begins_word hk, e7]; rfl, h1, by rw [e5, wf.ld]; exact hs1, by rw [e6, e7]; exact wf.b, by rw [e1]; exact wz, by rw [e2, wf.ls]; exact wz, by rw [e3, wf.le]; exact wz, by rw [e4, wf.lp]; exact wz, by rw [e5, wf.ld]; exact wz, by rw [e6]; exact wf.bz, fun H2 b2 h2 => ?_⟩
          refine ⟨_, L1.kinds.length, rfl, h2, b1.trans b2, e8, ?_⟩
          cases st with
          | els => cases hk; rw [show Stm.isEnd Stm.els = true from rfl, if_pos rfl] at hc; obtain ⟨rfl, rfl⟩ := hc; rfl
          | block => cases hk; rw [if_neg (by decide)] at hc; obtain ⟨rfl, rfl⟩ := hc; rfl
          | iff => cases hk; rw [if_neg (by decide)] at hc; obtain ⟨rfl, rfl⟩ := hc; rfl
          | whl => cases hk; rw [if_neg (by decide)] at hc; obtain ⟨rfl, rfl⟩ := hc; rfl
          | pl l => cases hk
          | fin => cases hk
        · cases st with
          | fin => rw [show Stm.isEnd Stm.fin = true from rfl, if_pos rfl] at hc; obtain ⟨rfl, rfl⟩ := hc; rfl
          | pl l => rw [show Stm.isEnd (Stm.pl l) = false from rfl, if_neg Bool.false_ne_true] at hc; obtain ⟨rfl, rfl⟩ := hc; rfl
          | els => exact absurd rfl hb
          | block => exact absurd rfl hb
          | iff => exact absurd rfl hb
          | whl => exact absurd rfl hb
      · rintro σ' H2 ⟨L2, s2, rfl, h2, b2, e9, e10⟩
        obtain ⟨dx2, ho2⟩ := h2.o
        refine ⟨_, rfl, A.o, _, dx2, _, _, rfl, ho2, T.cl_Layout, T.n_Layout_point_scopes, fl_at A 5 rfl rfl, .inl ⟨rfl, _, SqL.of h2.t⟩, _, rfl, A.t, _, _, rfl, rfl, h2.t, by rw [List.length_map, e9]; have := wf.y; exact small1000 (by omega), ?_⟩
        have h3 := h2.up_t (L2.pts ++ [s2])
        have b3 : But A.ms H2 (upd H2 A.t (ntL (L2.pts ++ [s2]))) := But.upd (by simp [LAd.ms]) _
        rw [show HO.lst (L2.pts.map (fun n => V.int (n : Nat)) ++ [.int (s2 : Nat)]) = ntL (L2.pts ++ [s2]) by unfold ntL; rw [List.map_append]; rfl]
        refine q _ (b2.trans b3) ?_
        rw [← e10]; exact h3
end
end Kp
end
section
set_option Elab.async false
set_option linter.all false
set_option maxRecDepth 100000
set_option maxHeartbeats 4000000
namespace Kp
open PySem L2

open Ka
/-- the numbers of a layout that has been laid are small -/
structure Sm (F : Lay) : Prop where
  z : F.kinds.length ≤ 500
  b : ∀ k n, F.begun.lookup k = some n → n < F.kinds.length
  e : ∀ k n, F.ended.lookup k = some n → n < F.kinds.length
theorem e_enter : Str.empty ++ ("enter " : Str) = "enter " := by decide +kernel
theorem e_leave : Str.empty ++ ("leave " : Str) = "leave " := by decide +kernel
theorem z_leave (n : Nat) (h : n < 1000) : (("leave " : Str) ++ num_ n).length ≤ sizeLine := by
  have := num_len n h
  have e : (("leave " : Str) ++ num_ n).length = 6 + (num_ n).length := by rw [Str.length_append]; rfl
  rw [e]; exact small30 (by omega)
theorem z_enter (n : Nat) (h : n < 1000) : (("enter " : Str) ++ num_ n).length ≤ sizeLine := by
  have := num_len n h
  have e : (("enter " : Str) ++ num_ n).length = 6 + (num_ n).length := by rw [Str.length_append]; rfl
  rw [e]; exact small30 (by omega)
/-- f"leave {n}", f"enter {n}" -/
theorem js_leave {i n : Nat} {σ : L2.St} {H : Hp} {Q : Str → Hp → Prop} {te : TE} (hn : n < 500) (ht : ∀ R : VK, R (.int (n : Nat)) H → te σ H R) (q : Q (Lab.txt (.leave n)) H) :
    tJs [fun _ H Q => Q (.str ("leave " : Str)) H, tFmt te] Str.empty σ H Q := by
  refine ⟨_, rfl, by decide +kernel, ht _ (.inr ⟨_, rfl, log_small (by omega), _, rfl, ?_, ?_⟩)⟩
  · rw [e_leave]; exact z_leave n (by omega)
  · rw [e_leave]; exact q
theorem js_enter {i n : Nat} {σ : L2.St} {H : Hp} {Q : Str → Hp → Prop} {te : TE} (hn : n < 500) (ht : ∀ R : VK, R (.int (n : Nat)) H → te σ H R) (q : Q (Lab.txt (.enter n)) H) :
    tJs [fun _ H Q => Q (.str ("enter " : Str)) H, tFmt te] Str.empty σ H Q := by
  refine ⟨_, rfl, by decide +kernel, ht _ (.inr ⟨_, rfl, log_small (by omega), _, rfl, ?_, ?_⟩)⟩
  · rw [e_enter]; exact z_enter n (by omega)
  · rw [e_enter]; exact q
theorem pr_get {H : Hp} {a : Addr} {l : List (Nat × Nat)} {k n : Nat} (h : H a = some (prD l)) (e : l.lookup k = some n) : DGet H a (.int (k : Nat)) (some (.int (n : Nat))) := by
  have z := DGet.k (k := (.inl (k : Nat) : Key)) h
  rw [val_pr, e] at z
  exact z
theorem op_at {l : List (Option Nat)} {n t : Nat} (h : l[n]? = some (some t)) : atI (l.map opV) (n : Nat) = some (.int (t : Nat)) := atI_nat (by rw [List.getElem?_map, h]; rfl)
theorem nt_at {l : List Nat} {n t : Nat} (h : l[n]? = some t) : atI (l.map fun n => V.int (n : Nat)) (n : Nat) = some (.int (t : Nat)) := atI_nat (by rw [List.getElem?_map, h]; rfl)
theorem pw_whl (k : Kd) : decide (V.str k.pw = V.str ("while" : Str)) = decide (k = .whl) := by cases k <;> decide +kernel
section
variable {P : Program} {w : World} {K : PySem.W.Frag} {mg : Str → Option Value} {base : Heap}
def spEndEdge (C : Addr) : Sp := fun vs H Q _ => ∃ (A : LAd) (F : Lay) (k : Nat) (e : Edge), vs = [.int (k : Nat), .ref A.o] ∧ LayAt C H A F ∧ Sm F ∧ Good F k .fin [e] ∧ ∀ (t : Addr), H t = none → Q (.ref t) (upd H t (.tup e.vals))
theorem scN_endedge : FnScope ["at", "layout", "scope"] ["at", "layout"] (defScope s_end_edge) := ⟨rfl, rfl, rfl, by decide +kernel, rfl, by decide +kernel, by decide +kernel⟩
theorem ok_endedge (T : Tx K w mg) : FnOk P w K mg base CX0 1 T.f_end_edge T.d_end_edge ["at", "layout"] (spEndEdge T.C_Layout) := by
  refine T.end_edge.F.ok scN_endedge (fun vs H Q E h => ?_) (fun cdv A outer s H vs Q E hr h => ?_)
  · obtain ⟨A, F, k, e, rfl, _⟩ := h
    rfl
  · obtain ⟨A, F, k, e, rfl, h, sm, ⟨n, qk, hn, hq, hc⟩, q⟩ := h
    have hu := hu_of hr
    obtain ⟨dx, ho⟩ := h.o
    refine ⟨_, (pss_cons (ps_set (i := 2) scN_endedge.nd rfl (.inl rfl) (pe_dget hu (pe_fld (pv 1) rfl) (pv 0) (fun _ _ => rfl)))
        (pss_cons (ps_if (pt_cmpR op_eq (pe_ix ix_list (pe_fld (pv 1) rfl) (pv 2) (fun _ _ => rfl)) pe_str (nomark _)) (pss_one (ps_ret (pe_tup (pa_cons (pv 0) (pa_cons (pe_joined (.cons pe_str (.cons (pe_fmt (pv 2)) .nil))) (pa_cons (pe_ix ix_list (pe_fld (pv 1) rfl) (pv 2) (fun _ _ => rfl)) pa_nil)))))) pss_nil)
        (pss_one (ps_ret (pe_tup (pa_cons (pv 0) (pa_cons (pe_joined (.cons pe_str (.cons (pe_fmt (pv 2)) .nil))) (pa_cons (pe_op op_add (pv 0) pe_int) pa_nil)))))))), ?_⟩
    refine ⟨_, rfl, A.o, _, dx, _, _, rfl, ho, T.cl_Layout, T.n_Layout_ended, fl_at A 7 rfl rfl, _, rfl, A.n, _, rfl, pr_get h.n hn, ?_⟩
    have hk := h.k
    unfold kdL at hk
    refine ⟨_, rfl, A.o, _, dx, _, _, rfl, ho, T.cl_Layout, T.n_Layout_kinds, fl_at A 0 rfl rfl, _, rfl, A.k, _, _, _, rfl, rfl, SqL.of hk, atI_nat (by rw [List.getElem?_map, hq]; rfl), rfl, _, rfl, ?_⟩
    rw [pw_whl]
    have hn5 : n < 500 := Nat.lt_of_lt_of_le (sm.e k n hn) sm.z
    rcases hc with ⟨rfl, t, ht, es⟩ | ⟨ne, es⟩
    · refine iteT (B := True) ?_
      cases es
      refine ⟨_, rfl, js_leave (i := 0) hn5 (fun R r => ⟨_, rfl, r⟩) ?_⟩
      refine ⟨_, rfl, A.o, _, dx, _, _, rfl, ho, T.cl_Layout, T.n_Layout_starts, fl_at A 1 rfl rfl, _, rfl, A.s, _, _, _, rfl, rfl, SqL.of h.s, op_at ht, by show 3 ≤ sizeLine; decide, fun p hp => q p hp⟩
    · rw [decide_eq_false ne]
      refine iteF (A := True) ?_
      cases es
      refine ⟨_, rfl, js_leave (i := 0) hn5 (fun R r => ⟨_, rfl, r⟩) ?_⟩
      exact ⟨_, rfl, _, _, rfl, rfl, by show 3 ≤ sizeLine; decide, fun p hp => q p hp⟩
/-- a list of new tuples -/
def TupL (H : Hp) (l : Addr) (es : List Edge) : Prop := ∃ xs, H l = some (.lst xs) ∧ TupsAt H xs (es.map Edge.vals)
theorem new_ne {H : Hp} {a b : Addr} {o : HO} (h : (upd H a o) b = none) : b ≠ a := fun z => by rw [z, upd_same] at h; cases h
theorem tupl1 {H : Hp} {p l : Addr} {e : Edge} (hp : H p = none) (hl : (upd H p (.tup e.vals)) l = none) : Same H (upd (upd H p (.tup e.vals)) l (.lst [.ref p])) ∧ TupL (upd (upd H p (.tup e.vals)) l (.lst [.ref p])) l [e] :=
  ⟨(same_new hp _).trans (same_new hl _), [.ref p], upd_same, .cons (by rw [upd_ne (new_ne hl).symm]; exact upd_same) .nil⟩
theorem tupl2 {H : Hp} {p r l : Addr} {e f : Edge} (hp : H p = none) (hr : (upd H p (.tup e.vals)) r = none) (hl : (upd (upd H p (.tup e.vals)) r (.tup f.vals)) l = none) :
    Same H (upd (upd (upd H p (.tup e.vals)) r (.tup f.vals)) l (.lst [.ref p, .ref r])) ∧ TupL (upd (upd (upd H p (.tup e.vals)) r (.tup f.vals)) l (.lst [.ref p, .ref r])) l [e, f] := by
  have n1 : r ≠ p := new_ne hr
  have n2 : l ≠ r := new_ne hl
  have n3 : l ≠ p := fun z => by rw [z, upd_ne n1.symm, upd_same] at hl; cases hl
  refine ⟨((same_new hp _).trans (same_new hr _)).trans (same_new hl _), [.ref p, .ref r], upd_same, .cons ?_ (.cons ?_ .nil)⟩
  · rw [upd_ne n3.symm, upd_ne n1.symm]; exact upd_same
  · rw [upd_ne n2.symm]; exact upd_same
def spBr2 (C : Addr) : Sp := fun vs H Q _ => ∃ (A : LAd) (F : Lay) (k : Nat) (es : List Edge), vs = [.int (k : Nat), .ref A.o] ∧ LayAt C H A F ∧ Sm F ∧ Good F k .iff es ∧ ∀ (l : Addr) (H' : Hp), Same H H' → H l = none → TupL H' l es → Q (.ref l) H'
theorem scN_br2 : FnScope ["at", "layout", "first", "turn", "second"] ["at", "layout"] (defScope s_branch_edges) := ⟨rfl, rfl, rfl, by decide +kernel, rfl, by decide +kernel, by decide +kernel⟩
theorem ok_br2 (T : Tx K w mg) : FnOk P w K mg base CX0 1 T.f_branch_edges T.d_branch_edges ["at", "layout"] (spBr2 T.C_Layout) := by
  refine T.branch_edges.F.ok scN_br2 (fun vs H Q E h => ?_) (fun cdv A outer s H vs Q E hr h => ?_)
  · obtain ⟨A, F, k, e, rfl, _⟩ := h
    rfl
  · obtain ⟨A, F, k, es, rfl, h, sm, ⟨n, t, m, hn, ht, hm, es⟩, q⟩ := h
    subst es
    have hu := hu_of hr
    obtain ⟨dx, ho⟩ := h.o
    refine ⟨_, (pss_cons (ps_set (i := 2) scN_br2.nd rfl (.inl rfl) (pe_dget hu (pe_fld (pv 1) rfl) (pv 0) (fun _ _ => rfl)))
        (pss_cons (ps_set (i := 3) scN_br2.nd rfl (.inl rfl) (pe_ix ix_list (pe_fld (pv 1) rfl) (pv 2) (fun _ _ => rfl)))
        (pss_cons (ps_set (i := 4) scN_br2.nd rfl (.inl rfl) (pe_dget hu (pe_fld (pv 1) rfl) (pv 3) (fun _ _ => rfl)))
        (pss_one (ps_ret (pe_lst (pa_cons (pe_tup (pa_cons (pv 0) (pa_cons (pe_joined (.cons pe_str (.cons (pe_fmt (pv 2)) .nil))) (pa_cons (pe_op op_add (pv 0) pe_int) pa_nil)))) (pa_cons (pe_tup (pa_cons (pv 0) (pa_cons (pe_joined (.cons pe_str (.cons (pe_fmt (pv 4)) .nil))) (pa_cons (pe_op op_add (pv 3) pe_int) pa_nil)))) pa_nil)))))))), ?_⟩
    refine ⟨_, rfl, A.o, _, dx, _, _, rfl, ho, T.cl_Layout, T.n_Layout_begun, fl_at A 6 rfl rfl, _, rfl, A.b, _, rfl, pr_get h.b hn, ?_⟩
    refine ⟨_, rfl, A.o, _, dx, _, _, rfl, ho, T.cl_Layout, T.n_Layout_ends, fl_at A 2 rfl rfl, _, rfl, A.e, _, _, _, rfl, rfl, SqL.of h.e, op_at ht, ?_⟩
    refine ⟨_, rfl, A.o, _, dx, _, _, rfl, ho, T.cl_Layout, T.n_Layout_begun, fl_at A 6 rfl rfl, _, rfl, A.b, _, rfl, pr_get h.b hm, ?_⟩
    have n5 : n < 500 := Nat.lt_of_lt_of_le (sm.b k n hn) sm.z
    have m5 : m < 500 := Nat.lt_of_lt_of_le (sm.b t m hm) sm.z
    refine ⟨_, rfl, js_enter (i := 0) n5 (fun R r => ⟨_, rfl, r⟩) ?_⟩
    refine ⟨_, rfl, _, _, rfl, rfl, by show 3 ≤ sizeLine; decide, fun p hp => ?_⟩
    refine ⟨_, rfl, js_enter (i := 0) m5 (fun R r => ⟨_, rfl, r⟩) ?_⟩
    refine ⟨_, rfl, _, _, rfl, rfl, by show 3 ≤ sizeLine; decide, fun r hr => ?_⟩
    refine ⟨by show 2 ≤ sizeLine; decide, fun l hl => ?_⟩
    obtain ⟨s2, g⟩ := tupl2 (e := ⟨k, .enter n, k + 1⟩) (f := ⟨k, .enter m, t + 1⟩) hp hr hl
    exact q l _ s2 (((same_new hp _).trans (same_new hr _)).free hl) g
def spFrom (C : Addr) : Sp := fun vs H Q _ => ∃ (A : LAd) (F : Lay) (k : Nat) (s : Stm) (es : List Edge), vs = [.int (k : Nat), .str s.txt, .str s.word, .ref A.o] ∧ LayAt C H A F ∧ Sm F ∧ Good F k s es ∧ ∀ (l : Addr) (H' : Hp), Same H H' → H l = none → TupL H' l es → Q (.ref l) H'
theorem scN_from : FnScope ["at", "line", "word", "layout", "body", "second"] ["at", "line", "word", "layout"] (defScope s_edges_from) := ⟨rfl, rfl, rfl, by decide +kernel, rfl, by decide +kernel, by decide +kernel⟩
theorem word_w (x : Str) (hx : ∀ w ∈ plainW, decide (V.str w = V.str x) = false) (l : Ln) : decide (V.str (Stm.pl l).word = V.str x) = false := hx _ (plain_word l)
theorem ok_from (T : Tx K w mg) : FnOk P w K mg base CX0 2 T.f_edges_from T.d_edges_from ["at", "line", "word", "layout"] (spFrom T.C_Layout) := by
  have G_branch_edges := ok_br2 (P := P) (base := base) T
  have G_end_edge := ok_endedge (P := P) (base := base) T
  refine T.edges_from.F.ok scN_from (fun vs H Q E h => ?_) (fun cdv A outer s H vs Q E hr h => ?_)
  · obtain ⟨A, F, k, s, e, rfl, _⟩ := h
    rfl
  · obtain ⟨A, F, k, st, es, rfl, h, sm, hg, q⟩ := h
    have hu := hu_of hr
    obtain ⟨dx, ho⟩ := h.o
    refine ⟨_, (pss_cons (ps_if (pt_cmpR op_eq (pv 2) pe_str (nomark _)) (pss_one (ps_ret (pe_call G_branch_edges hr (by rfl) T.branch_edges.g T.branch_edges.F.kp T.branch_edges.b .nil pass0 (pa_cons (pv 0) (pa_cons (pv 3) pa_nil))))) pss_nil)
        (pss_cons (ps_if (pt_cmpR op_eq (pv 2) pe_str (nomark _)) (pss_cons (ps_set (i := 4) scN_from.nd rfl (.inl rfl) (pe_dget hu (pe_fld (pv 3) rfl) (pv 0) (fun _ _ => rfl)))
        (pss_one (ps_ret (pe_lst (pa_cons (pe_tup (pa_cons (pv 0) (pa_cons (pe_joined (.cons pe_str (.cons (pe_fmt (pv 4)) .nil))) (pa_cons (pe_op op_add (pv 0) pe_int) pa_nil)))) (pa_cons (pe_tup (pa_cons (pv 0) (pa_cons pe_str (pa_cons (pe_op op_add (pe_ix ix_list (pe_fld (pv 3) rfl) (pv 4) (fun _ _ => rfl)) pe_int) pa_nil)))) pa_nil)))))) pss_nil)
        (pss_cons (ps_if (pt_cmpR op_eq (pv 2) pe_str (nomark _)) (pss_one (ps_ret (pe_lst (pa_cons (pe_tup (pa_cons (pv 0) (pa_cons (pe_joined (.cons pe_str (.cons (pe_fmt (pe_dget hu (pe_fld (pv 3) rfl) (pv 0) (fun _ _ => rfl))) .nil))) (pa_cons (pe_op op_add (pv 0) pe_int) pa_nil)))) pa_nil)))) pss_nil)
        (pss_cons (ps_if (pt_cmpR op_eq (pv 2) pe_str (nomark _)) (pss_cons (ps_set (i := 5) scN_from.nd rfl (.inl rfl) (pe_dget hu (pe_fld (pv 3) rfl) (pv 0) (fun _ _ => rfl)))
        (pss_one (ps_ret (pe_lst (pa_cons (pe_tup (pa_cons (pv 0) (pa_cons (pe_joined (.cons pe_str (.cons (pe_fmt (pe_dget hu (pe_fld (pv 3) rfl) (pv 0) (fun _ _ => rfl))) .nil))) (pa_cons (pe_op op_add (pe_ix ix_list (pe_fld (pv 3) rfl) (pv 5) (fun _ _ => rfl)) pe_int) pa_nil)))) pa_nil))))) pss_nil)
        (pss_cons (ps_if (pt_cmpR op_eq (pv 2) pe_str (nomark _)) (pss_one (ps_ret (pe_lst (pa_cons (pe_call G_end_edge hr (by rfl) T.end_edge.g T.end_edge.F.kp T.end_edge.b .nil pass0 (pa_cons (pv 0) (pa_cons (pv 3) pa_nil))) pa_nil)))) pss_nil)
        (pss_one (ps_ret (pe_lst (pa_cons (pe_tup (pa_cons (pv 0) (pa_cons (pv 1) (pa_cons (pe_op op_add (pv 0) pe_int) pa_nil)))) pa_nil))))))))), ?_⟩
    refine ⟨_, rfl, rfl, _, rfl, ?_⟩
    cases st with
    | iff =>
      refine iteT (B := True) ?_
      exact ⟨_, rfl, _, rfl, A, F, k, es, rfl, h, sm, hg, q⟩
    | whl =>
      refine iteF (A := True) ?_
      refine ⟨_, rfl, rfl, _, rfl, iteT (B := True) ?_⟩
      obtain ⟨n, t, hn, ht, e⟩ := hg
      subst e
      have n5 : n < 500 := Nat.lt_of_lt_of_le (sm.b k n hn) sm.z
      refine ⟨_, rfl, A.o, _, dx, _, _, rfl, ho, T.cl_Layout, T.n_Layout_begun, fl_at A 6 rfl rfl, _, rfl, A.b, _, rfl, pr_get h.b hn, ?_⟩
      refine ⟨_, rfl, js_enter (i := 0) n5 (fun R r => ⟨_, rfl, r⟩) ?_⟩
      refine ⟨_, rfl, _, _, rfl, rfl, by show 3 ≤ sizeLine; decide, fun p hp => ?_⟩
      have s1 := same_new hp (.tup (Edge.vals ⟨k, .enter n, k + 1⟩))
      refine ⟨_, rfl, _, rfl, A.o, _, dx, _, _, rfl, s1 _ _ ho, T.cl_Layout, T.n_Layout_ends, fl_at A 2 rfl rfl, _, rfl, A.e, _, _, _, rfl, rfl, SqL.of (s1 _ _ h.e), op_at ht, _, _, rfl, rfl, by show 3 ≤ sizeLine; decide, fun r hr => ?_⟩
      refine ⟨by show 2 ≤ sizeLine; decide, fun l hl => ?_⟩
      obtain ⟨s2, g⟩ := tupl2 (e := ⟨k, .enter n, k + 1⟩) (f := ⟨k, .pass, t + 1⟩) hp hr hl
      exact q l _ s2 ((s1.trans (same_new hr _)).free hl) g
    | block =>
      refine iteF (A := True) ?_
      refine ⟨_, rfl, rfl, _, rfl, iteF (A := True) ?_⟩
      refine ⟨_, rfl, rfl, _, rfl, iteT (B := True) ?_⟩
      obtain ⟨n, hn, e⟩ := hg
      subst e
      have n5 : n < 500 := Nat.lt_of_lt_of_le (sm.b k n hn) sm.z
      refine ⟨_, rfl, js_enter (i := 0) n5 (fun R r => ⟨_, rfl, A.o, _, dx, _, _, rfl, ho, T.cl_Layout, T.n_Layout_begun, fl_at A 6 rfl rfl, _, rfl, A.b, _, rfl, pr_get h.b hn, r⟩) ?_⟩
      refine ⟨_, rfl, _, _, rfl, rfl, by show 3 ≤ sizeLine; decide, fun p hp => ?_⟩
      refine ⟨by show 1 ≤ sizeLine; decide, fun l hl => ?_⟩
      obtain ⟨s2, g⟩ := tupl1 (e := ⟨k, .enter n, k + 1⟩) hp hl
      exact q l _ s2 ((same_new hp _).free hl) g
    | els =>
      refine iteF (A := True) ?_
      refine ⟨_, rfl, rfl, _, rfl, iteF (A := True) ?_⟩
      refine ⟨_, rfl, rfl, _, rfl, iteF (A := True) ?_⟩
      refine ⟨_, rfl, rfl, _, rfl, iteT (B := True) ?_⟩
      obtain ⟨n, m, t, hn, hm, ht, e⟩ := hg
      subst e
      have n5 : n < 500 := Nat.lt_of_lt_of_le (sm.e k n hn) sm.z
      refine ⟨_, rfl, A.o, _, dx, _, _, rfl, ho, T.cl_Layout, T.n_Layout_begun, fl_at A 6 rfl rfl, _, rfl, A.b, _, rfl, pr_get h.b hm, ?_⟩
      refine ⟨_, rfl, js_leave (i := 0) n5 (fun R r => ⟨_, rfl, A.o, _, dx, _, _, rfl, ho, T.cl_Layout, T.n_Layout_ended, fl_at A 7 rfl rfl, _, rfl, A.n, _, rfl, pr_get h.n hn, r⟩) ?_⟩
      refine ⟨_, rfl, A.o, _, dx, _, _, rfl, ho, T.cl_Layout, T.n_Layout_ends, fl_at A 2 rfl rfl, _, rfl, A.e, _, _, _, rfl, rfl, SqL.of h.e, op_at ht, _, _, rfl, rfl, by show 3 ≤ sizeLine; decide, fun p hp => ?_⟩
      refine ⟨by show 1 ≤ sizeLine; decide, fun l hl => ?_⟩
      obtain ⟨s2, g⟩ := tupl1 (e := ⟨k, .leave n, t + 1⟩) hp hl
      exact q l _ s2 ((same_new hp _).free hl) g
    | fin =>
      refine iteF (A := True) ?_
      refine ⟨_, rfl, rfl, _, rfl, iteF (A := True) ?_⟩
      refine ⟨_, rfl, rfl, _, rfl, iteF (A := True) ?_⟩
      refine ⟨_, rfl, rfl, _, rfl, iteF (A := True) ?_⟩
      refine ⟨_, rfl, rfl, _, rfl, iteT (B := True) ?_⟩
      have one : ∃ e : Edge, es = [e] := by
        obtain ⟨n, qk, _, _, hc⟩ := hg
        rcases hc with ⟨_, t, _, e⟩ | ⟨_, e⟩ <;> exact ⟨_, e⟩
      obtain ⟨e, he⟩ := one
      subst he
      refine ⟨_, rfl, _, rfl, A, F, k, e, rfl, h, sm, hg, fun p hp => ?_⟩
      refine ⟨by show 1 ≤ sizeLine; decide, fun l hl => ?_⟩
      obtain ⟨s2, g⟩ := tupl1 (e := e) hp hl
      exact q l _ s2 ((same_new hp _).free hl) g
    | pl ln =>
      have nw := plain_word ln
      rw [word_w "if" (by decide +kernel) ln]
      refine iteF (A := True) ?_
      refine ⟨_, rfl, rfl, _, rfl, ?_⟩
      rw [word_w "while" (by decide +kernel) ln]
      refine iteF (A := True) ?_
      refine ⟨_, rfl, rfl, _, rfl, ?_⟩
      rw [word_w "block" (by decide +kernel) ln]
      refine iteF (A := True) ?_
      refine ⟨_, rfl, rfl, _, rfl, ?_⟩
      rw [word_w "else" (by decide +kernel) ln]
      refine iteF (A := True) ?_
      refine ⟨_, rfl, rfl, _, rfl, ?_⟩
      rw [word_w "end" (by decide +kernel) ln]
      refine iteF (A := True) ?_
      cases hg
      refine ⟨_, rfl, _, rfl, _, rfl, _, _, rfl, rfl, by show 3 ≤ sizeLine; decide, fun p hp => ?_⟩
      refine ⟨by show 1 ≤ sizeLine; decide, fun l hl => ?_⟩
      obtain ⟨s2, g⟩ := tupl1 (e := ⟨k, .line ln, k + 1⟩) hp hl
      exact q l _ s2 ((same_new hp _).free hl) g
end
end Kp
end
section
set_option Elab.async false
set_option linter.all false
set_option maxRecDepth 100000
set_option maxHeartbeats 1000000
namespace Kp
open PySem L2 PyProof.Rows PySem.Spec
open PySem.Sem (wp)
/-- enumerate of what begins: us first state -/
theorem meets_enum1 {v : Value} {o : Obj} {H : Heap → Prop} (B : Begins v o H) :
    Meets (Builtin.«enumerate.__new__» ⟨[.type "enumerate", v], []⟩) (fun _ R s => H s.heap ∧
      R (.ok (.ret (.ref (s.heap.push o).objs.size))) { s with heap := (s.heap.push o).push { cls := .type "enumerate", data := .fields #[.none, .bool false, .ref s.heap.objs.size, rawInt 0, .none, .none] } }) :=
  .of_wp fun pr w A R s h => by
    obtain ⟨heap0, gens0, drawn0, tk0, os0⟩ := s
    obtain ⟨h1, h⟩ := h
    have hsub := sub_enumerate
    have begins : ∀ {A' : Around} {E : Value → Shared → Prop} {Q : Value → Shared → Prop}, Q (.ref heap0.objs.size) ⟨heap0.push o, gens0, drawn0, tk0, os0⟩ → wpAny (model pr w) A' (pyIter v) Q E ⟨heap0, gens0, drawn0, tk0, os0⟩ :=
      fun q => B.iter pr w _ _ ⟨heap0, gens0, drawn0, tk0, os0⟩ _ h1 q
    wp_walk using begins
    refine wpAny_stack_any fun here => wpAny_pure ?_
    split
    · rename_i c _ _ _ _ _
      cases (c == Value.type "enumerate")
      · wp_walk using begins
        exact ⟨_, rfl, h⟩
      · wp_walk using begins
        exact ⟨_, rfl, h⟩
    · wp_walk using begins
      exact ⟨_, rfl, h⟩
theorem call_enum1 {pr : Program} {w : World} {A : Around} {E : Value → Shared → Prop} {s : Shared} {v : Value} {o : Obj} {H : Heap → Prop} {Q : Value → Shared → Prop} (B : Begins v o H) (h1 : H s.heap)
    (k : ∀ h', IsEnum h' (s.heap.objs.size + 1) s.heap.objs.size 0 .none → h'.get? s.heap.objs.size = some o →
      (∀ b o, s.heap.get? b = some o → h'.get? b = some o) → Q (.ref (s.heap.objs.size + 1)) { s with heap := h' }) :
    wpAny (model pr w) A (call (.type "enumerate") [v]) Q E s := by
  refine callType_new F.called_enumerate (by decide) (F.typeCall_enumerate_1 _) (F.newCall_enumerate_1 _) (fun obj => F.args_object_init_2 obj _) F.entry_enumerate_new (meets_enum1 B) ⟨h1, ?_⟩
  have sizes : (s.heap.push o).objs.size = s.heap.objs.size + 1 := Heap.size_push ..
  show _ ∧ _
  rw [sizes]
  have begun : IsEnum ((s.heap.push o).push { cls := .type "enumerate", data := .fields #[.none, .bool false, .ref s.heap.objs.size, rawInt 0, .none, .none] }) (s.heap.objs.size + 1) s.heap.objs.size 0 .none := by
    have := Heap.get?_push_size (s.heap.push o) (o := { cls := .type "enumerate", data := .fields #[.none, .bool false, .ref s.heap.objs.size, rawInt 0, .none, .none] }) rfl
    rw [sizes] at this
    exact this
  exact ⟨⟨_, begun, rfl⟩, k _ begun (Heap.get?_push_of_some _ (Heap.get?_push_size _ B.free)) fun b o x => Heap.get?_push_of_some _ (Heap.get?_push_of_some _ x)⟩
/-- the tuple at a, item by item, with the items' numbers -/
def IteT (K : PySem.W.Frag) (a : Addr) : It :=
  ⟨fun i H => ∃ (xs : List V) (x : V), SqT K H a xs ∧ xs[i]? = some x, fun i H v H' => ∃ T x, v = .ref T ∧ H T = none ∧ H' = upd H T (.tup [.int (i : Nat), x]) ∧ ∀ xs, SqT K H a xs → xs[i]? = some x, fun i H => ∃ xs : List V, SqT K H a xs ∧ xs.length ≤ i⟩
theorem turn_enumT {P : Program} {w : World} {K : PySem.W.Frag} {elts : List Expr} {kk : Nat} {tpos : Pos} (a e it : Addr) :
    Turn P w K (.Tuple elts kk tpos) (IteT K a) [e, it] e (fun i h => (∃ old, IsEnum h e it ((i : Nat) : Int) old) ∧ h.IsTupleIter it a i ∧ e ≠ it ∧ a ≠ e ∧ a ≠ it) where
  mem := by simp
  obj := fun i h here b hb => by
    obtain ⟨⟨old, atE⟩, ⟨o, ho, calm, hd⟩, _⟩ := here
    have two : b = e ∨ b = it := by simpa using hb
    rcases two with z | z
    · rw [z]; exact ⟨_, atE, fun v q => nomatch q⟩
    · rw [z]; exact ⟨o, ho, fun v q => by rw [hd] at q; cases q⟩
  keep := fun i h h' here k => by
    obtain ⟨⟨old, atE⟩, hi, eIt⟩ := here
    exact ⟨⟨old, k e (by simp) _ atE⟩, hi.at fun o q => k it (by simp) o q, eIt⟩
  item := by
    intro X eqP eqW eqK calm i pins s σ H E I own here goes
    subst eqP eqW eqK
    obtain ⟨⟨old, atE⟩, atIt, eIt, aE, aIt⟩ := here
    obtain ⟨xs, x, tupA, itemX⟩ := goes
    obtain ⟨us, vals, stands, sizes⟩ := I.tuple tupA
    obtain ⟨u, getU, relU⟩ := vals.get itemX
    have eOld : e < s.heap.objs.size := Heap.lt_size atE
    have itOld : it < s.heap.objs.size := by obtain ⟨_, q, _⟩ := atIt; exact Heap.lt_size q
    have ha : s.heap.IsTuple a us.toArray := stands
    have hu' : us.toArray[i]? = some u := by simpa using getU
    have hlt : i < us.toArray.size := (Array.getElem?_eq_some_iff.mp hu').1
    refine wpAny_pyNext_enum_itemD (Draws.tuple (show X.A.in1.handled = none from I.ok.hd calm) it a aIt us.toArray) atE ⟨atIt, ha⟩ hlt eIt (by simp; exact ⟨eIt, Ne.symm aE⟩) fun u' h' tk0 hu2 ho hst' hT hsz hk => ?_
    obtain rfl : u = u' := Option.some.inj (hu'.symm.trans hu2)
    refine ⟨_, rfl, wpAny_letOwnedTupleGo_enum (s := { s with heap := h', toks := tk0 + 1 }) ho fun h'' he' sb => ?_⟩
    have hT2 : h''.get? s.heap.objs.size = some { cls := .type "tuple", data := .seq #[.int i tk0, u] } := (sb.2 _ (Nat.ne_of_gt eOld)).trans hT
    have new : ObjOk X.prog X.w (upd H s.heap.objs.size (.tup [.int (i : Nat), x])) h'' s.heap.objs.size (.tup [.int (i : Nat), x]) :=
      ⟨by show 2 ≤ sizeLine; decide, [.int i tk0, u], .cons ⟨_, rfl⟩ (.cons relU .nil), ⟨_, hT2, rfl, _, rfl⟩⟩
    have IB : Inv X pins σ (upd H s.heap.objs.size (.tup [.int (i : Nat), x])) { s with heap := h'', toks := tk0 + 1 } :=
      I.turnedNew (ch := [e, it]) (fun b ob hb q => (sb.2 b (fun z => hb (by simp [z]))).trans (hk b ob (fun z => hb (by simp [z])) (fun z => hb (by simp [z])) q)) own (Nat.le_refl _) new
    refine ⟨.ref s.heap.objs.size, _, IB, rfl, ⟨_, x, rfl, I.hok.fresh (Nat.le_refl _), rfl, fun ys hy => by rw [I.tuple_inj hy tupA]; exact itemX⟩, ⟨⟨u, ?_⟩, hst'.1.at fun o q => (sb.2 it (Ne.symm eIt)).trans q, eIt, aE, aIt⟩, fun b hb => ?_⟩
    · have up1 : ((i + 1 : Nat) : Int) = (i : Int) + 1 := by omega
      rw [up1]; exact he'
    · have old' : b < s.heap.objs.size := by
        have two : b = e ∨ b = it := by simpa using hb
        rcases two with z | z
        · rw [z]; exact eOld
        · rw [z]; exact itOld
      rw [upd_ne (Nat.ne_of_lt old')]
      exact (own b hb).1
  done := by
    intro X eqP eqW eqK calm i pins s σ H E I own here goes
    subst eqP eqW eqK
    obtain ⟨⟨old, atE⟩, atIt, eIt, aE, aIt⟩ := here
    obtain ⟨xs, tupA, itemX⟩ := goes
    obtain ⟨us, vals, stands, sizes⟩ := I.tuple tupA
    obtain ⟨g0, g1, g2, g3, g4, g5⟩ := own it (by simp)
    have hl := vals.length
    have ha : s.heap.IsTuple a us.toArray := stands
    have isE : s.TypeIs (.ref e) "enumerate" := ⟨_, atE, rfl⟩
    unfold pyNext
    refine wpAny_bind (wpAny_attempt (wpAny_callSpecial?_slot (name := Str.ofString "__next__") isE F.slot_enumerate_next (wpAny_call_entry F.slot_enumerate_next isE F.entry_enumerate_next ?_ (F.args_enumerate_next_1 _))))
    show wpAny _ _ (field (.ref e) 2 >>= _) _ _ _
    refine wpAny_bind (wpAny_field atE rfl (x := .ref it) rfl ?_)
    refine wpAny_bind (RZ.nextOf_tuple_end (show X.A.in1.handled = none from I.ok.hd calm) atIt ha (by simp; omega) fun h' x eb hx' => ?_)
    obtain ⟨o, ho, hcl⟩ := hx'
    refine wpAny_bind (wpAny_isInstance (T := "StopIteration") (b := true) ⟨o, ho, hcl⟩ isSubtype_stop (wpAny_pure ?_))
    exact ⟨rfl, I.turned (t' := s.toks) (fun b o hb q => eb b o hb q) g0 g1 g3 g4 g5⟩
  self := fun A i s Q E here h => by
    obtain ⟨⟨_, atE⟩, _⟩ := here
    exact wpAny_pyIter_enum atE h
def iEnumT (K : PySem.W.Frag) (ta : TA) : TI := fun σ H R => ta σ H fun vs H1 => ∃ a xs, vs = [.ref a] ∧ SqT K H1 a xs ∧ R (IteT K a) H1
theorem pi_enumT {X : Cx} {e : Expr} {ta : TA} {stands pos tpos : Pos} {elts : List Expr} {kk : Nat} (hg : Gl X "enumerate") (hm : X.mg "enumerate" = none) (ha : PA X [e] ta) (hs : starEach [e] X.env = [(false, eval e X.env)] := by rfl) :
    PI X (.Tuple elts kk tpos) (.Call (.Name "enumerate" stands) [e] [] pos) (iEnumT X.K ta) := by
  refine ⟨fun pins s σ H R I h => ?_⟩
  refine Call_ (ld_blt I hg hm boot_enumerate (PyProof.Rows.callWith_type1 (thn (ha.run pos pins s σ H _ I h) fun us s1 ⟨vs, H1, IB, r1, q1⟩ => ?_) hs rfl))
  obtain ⟨a, xs, ex, tupA, q⟩ := q1
  subst ex
  cases r1 with
  | cons r rr =>
    cases rr
    cases r
    obtain ⟨us, vals, p', sizes⟩ := IB.tuple tupA
    have ha' : s1.heap.IsTuple a us.toArray := p'
    have hal : a < s1.heap.objs.size := by obtain ⟨_, q, _⟩ := id ha'; exact Heap.lt_size q
    refine call_enum1 (begins_tuple a us.toArray) ha' fun h' atE atIt hk => wpAny_pyIter_enum atE ?_
    have IA : Inv X pins σ H1 { s1 with heap := h' } := IB.kept (t' := s1.toks) hk
    refine ⟨s1.heap.objs.size + 1, [s1.heap.objs.size + 1, s1.heap.objs.size], _, _, H1, rfl, IA, turn_enumT a (s1.heap.objs.size + 1) s1.heap.objs.size, ⟨⟨.none, atE⟩, ⟨_, atIt, rfl, rfl⟩, Nat.succ_ne_self _, Nat.ne_of_lt (Nat.lt_succ_of_lt hal), Nat.ne_of_lt hal⟩, fun b hb => ?_, q⟩
    have two : b = s1.heap.objs.size + 1 ∨ b = s1.heap.objs.size := by simpa using hb
    have fresh : s1.heap.objs.size ≤ b := by
      rcases two with z | z
      · rw [z]; exact Nat.le_succ _
      · rw [z]; exact Nat.le_refl _
    exact IB.fpOk fresh (IB.hok.fresh fresh)
theorem walk_enumT {K : PySem.W.Frag} {a : Addr} {xs : List V} : Walk (IteT K a) xs.length (fun H => SqT K H a xs) (YPair (fun i => some (.int (i : Nat))) (fun i => xs[i]?)) := by
  refine ⟨fun i _ lt q => ⟨xs, xs[i], q, List.getElem?_eq_getElem lt⟩, fun _ q => ⟨xs, q, Nat.le_refl _⟩, fun i H v H' _ q y => ?_⟩
  obtain ⟨T, x, ev, fr, eh, all⟩ := y
  exact ⟨T, .int (i : Nat), x, ev, fr, eh, rfl, all xs q⟩
end Kp
end
section
set_option Elab.async false
set_option linter.all false
set_option maxRecDepth 100000
set_option maxHeartbeats 4000000
namespace Kp
open PySem L2

open Ka
def ToldsAt (K : PySem.W.Frag) (H : Hp) (xs : List V) (ss : List Stm) : Prop := xs.length = ss.length ∧ ∀ (i : Nat) (s : Stm), ss[i]? = some s → ∃ a, xs[i]? = some (.ref a) ∧ SqT K H a s.vals
theorem ToldsAt.keep {K : PySem.W.Frag} {H H' : Hp} {xs : List V} {ss : List Stm} (h : ToldsAt K H xs ss) (e : KeepT K H H') : ToldsAt K H' xs ss :=
  ⟨h.1, fun i s q => by obtain ⟨a, h1, h2⟩ := h.2 i s q; exact ⟨a, h1, e _ _ h2⟩⟩
theorem vals_word (s : Stm) : ∃ r, s.vals = .str s.word :: r := by
  cases s with
  | pl l => cases l <;> exact ⟨_, rfl⟩
  | _ => exact ⟨_, rfl⟩
theorem LayAt.mono {C : Addr} {H H' : Hp} {A : LAd} {L : Lay} (h : LayAt C H A L) (e : Same H H') : LayAt C H' A L := by
  obtain ⟨⟨dx, ho⟩, hk, hs, he, hp, hd, ht, hb, hn, nd, bn⟩ := h
  exact ⟨⟨dx, e _ _ ho⟩, e _ _ hk, e _ _ hs, e _ _ he, e _ _ hp, e _ _ hd, e _ _ ht, e _ _ hb, e _ _ hn, nd, bn⟩
theorem TupsAt.app {H : Hp} {xs ys : List V} {as bs : List (List V)} (h : TupsAt H xs as) (g : TupsAt H ys bs) : TupsAt H (xs ++ ys) (as ++ bs) := by
  induction h with
  | nil => exact g
  | cons h _ ih => exact .cons h ih
theorem Lines.uncons {F : Lay} {k : Nat} {ss : List Stm} {es : List Edge} {i : Nat} {s : Stm} (h : Lines F k (ss.drop i) es) (hs : ss[i]? = some s) : ∃ e1 e2, es = e1 ++ e2 ∧ Good F k s e1 ∧ Lines F (k + 1) (ss.drop (i + 1)) e2 := by
  obtain ⟨hi, he⟩ := List.getElem?_eq_some_iff.mp hs
  rw [List.drop_eq_getElem_cons hi, he] at h
  cases h with
  | cons g r => exact ⟨_, _, rfl, g, r⟩
section
variable {P : Program} {w : World} {K : PySem.W.Frag} {mg : Str → Option Value} {base : Heap}
def spEdgesOf (K : PySem.W.Frag) (C : Addr) : Sp := fun vs H Q _ => ∃ (l s : Addr) (A : LAd) (F : Lay) (ss : List Stm) (xs : List V) (es : List Edge), vs = [.ref l, .ref s, .ref A.o] ∧ SqT K H l (ss.map fun s => V.str s.txt) ∧ SqT K H s xs ∧ ToldsAt K H xs ss ∧
  LayAt C H A F ∧ Sm F ∧ Lines F 0 ss es ∧ es.length ≤ 900 ∧ ∀ (t : Addr) (H' : Hp) (ys : List V), Same H H' → H t = none → H' t = some (.tup ys) → TupsAt H' ys (es.map Edge.vals) → Q (.ref t) H'
theorem scN_edgesof : FnScope ["lines", "statements", "layout", "found", "at", "line"] ["lines", "statements", "layout"] (defScope s_edges_of) := ⟨rfl, rfl, rfl, by decide +kernel, rfl, by decide +kernel, by decide +kernel⟩
theorem ok_edgesof (T : Tx K w mg) : FnOk P w K mg base CX0 3 T.f_edges_of T.d_edges_of ["lines", "statements", "layout"] (spEdgesOf K T.C_Layout) := by
  have G_edges_from := ok_from (P := P) (base := base) T
  refine T.edges_of.F.ok scN_edgesof (fun vs H Q E h => ?_) (fun cdv A outer s H vs Q E hr h => ?_)
  · obtain ⟨l, s, A, F, ss, xs, es, rfl, _⟩ := h
    rfl
  · obtain ⟨l, st, A, F, ss, xs, es, rfl, hl, hs, hx, h, sm, hL, hz, q⟩ := h
    have hu := hu_of hr
    refine ⟨_, (Evl.pss_cut (ps_set (i := 3) scN_edgesof.nd rfl (.inl rfl) (pe_lst pa_nil))
        (pss_cons (ps_for PassesOwn.never rfl (pi_enumT (by rfl) T.B.enumerate (pa_cons (pv 0) pa_nil)) (pg_tup rfl (pgs_cons (pg_name (i := 4) scN_edgesof.nd rfl (.inl rfl)) (pgs_cons (pg_name (i := 5) scN_edgesof.nd rfl (.inl rfl)) pgs_nil))) (pss_one (ps_expr (pe_bm PySem.F.plainAttrs_list PySem.F.slot_list_extend PySem.F.type_list_extend mt_extend (pv 3) (pa_cons (pe_call G_edges_from hr (by rfl) T.edges_from.g T.edges_from.F.kp T.edges_from.b .nil pass0 (pa_cons (pv 4) (pa_cons (pv 5) (pa_cons (pe_ix ix_tup (pe_ix ix_tup (pv 1) (pv 4) (fun _ _ => rfl)) pe_int (fun _ _ => rfl)) (pa_cons (pv 2) pa_nil))))) pa_nil)))))
        (pss_one (ps_ret (pe_callTy call_tuple_of (by rfl) T.B.tuple (by decide +kernel) (pa_cons (pv 3) pa_nil)))))), ?_⟩
    refine ⟨fun σ' H' => ∃ f, σ' = [some (.ref l), some (.ref st), some (.ref A.o), some (.ref f), none, none] ∧ H f = none ∧ H' = upd H f (.lst []), ⟨Nat.zero_le _, fun p hp => ⟨p, rfl, hp, rfl⟩⟩, ?_⟩
    rintro _ _ ⟨f, rfl, hf, rfl⟩
    have same : ∀ H', But [f] (upd H f (.lst [])) H' → Same H H' := fun H' b c o e => b c o (by rw [upd_ne (ne_of_none e hf)]; exact e) (by simp only [List.mem_singleton]; exact ne_of_none e hf)
    have lt : (ss.map fun s => V.str s.txt).length = ss.length := List.length_map ..
    refine ⟨_, rfl, l, _, rfl, (Same.keepT (same_new hf _)) _ _ hl, for_it (walk_enumT (xs := ss.map fun s => V.str s.txt)) (fun i σ H' => ∃ v4 v5, σ = [some (.ref l), some (.ref st), some (.ref A.o), some (.ref f), v4, v5] ∧ But [f] (upd H f (.lst [])) H' ∧
      ∃ e1 e2 ys, es = e1 ++ e2 ∧ Lines F i (ss.drop i) e2 ∧ H' f = some (.lst ys) ∧ TupsAt H' ys (e1.map Edge.vals)) ⟨none, none, rfl, But.refl _ _, [], es, [], rfl, hL, upd_same, .nil⟩ ?_ ?_ ?_⟩
    · rintro i σ H' _ ⟨_, _, _, b, _⟩
      exact (Same.keepT (same H' b)) _ _ hl
    · rintro i x σ H' H'' hi ⟨v4, v5, rfl, b, e1, e2, ys, ee, hL2, hF, tF⟩ ⟨T0, x0, y0, rfl, hT0, rfl, ex0, ey0⟩
      cases ex0
      have hi' : i < ss.length := by rw [← lt]; exact hi
      have si : ss[i]? = some ss[i] := List.getElem?_eq_getElem hi'
      have ey0 : (ss.map fun s => V.str s.txt)[i]? = some y0 := ey0
      rw [List.getElem?_map, si] at ey0
      cases ey0
      have s1 := same_new hT0 (.tup [V.int (i : Nat), .str ss[i].txt])
      obtain ⟨g1, g2, rfl, hG, hL3⟩ := Lines.uncons hL2 si
      obtain ⟨a, ha1, ha2⟩ := hx.2 i _ si
      obtain ⟨r, er⟩ := vals_word ss[i]
      have sa := (same H' b).trans s1
      refine ⟨T0, [.int (i : Nat), .str ss[i].txt], rfl, SqT.of upd_same, rfl, _, _, rfl, _, _, rfl, rfl, ?_⟩
      refine ⟨_, rfl, .inl ⟨rfl, _, SqL.of (s1 _ _ hF)⟩, ?_⟩
      refine ⟨_, rfl, _, rfl, _, rfl, _, rfl, st, _, _, _, rfl, rfl, (Same.keepT sa) _ _ hs, atI_nat ha1, a, _, _, _, rfl, rfl, (Same.keepT sa) _ _ ha2, by rw [er]; exact atI_nat (j := 0) rfl, _, rfl, A, F, i, ss[i], g1, rfl, h.mono sa, sm, hG, fun L1 H2 s2 hL1 tl => ?_⟩
      obtain ⟨zs, hz1, tz⟩ := tl
      have s12 := s1.trans s2
      have ln1 := tF.length
      have ln2 := tz.length
      rw [List.length_map] at ln1 ln2
      refine ⟨f, L1, ys, zs, rfl, rfl, s12 _ _ hF, hz1, ?_, ?_⟩
      · rw [ln1, ln2]; rw [ee] at hz; simp only [List.length_append] at hz; exact Nat.le_of_lt (small1000 (by omega))
      · refine ⟨_, _, rfl, b.trans ((But.same s12 _).trans (But.upd (by simp) _)), e1 ++ g1, g2, ys ++ zs, by rw [ee, List.append_assoc], hL3, upd_same, ?_⟩
        have kt : ∀ (c : Addr) (vs : List V), H2 c = some (.tup vs) → (upd H2 f (.lst (ys ++ zs))) c = some (.tup vs) := fun c vs hc => by rw [upd_ne (ne_of hc (s12 _ _ hF) (by intro z; cases z))]; exact hc
        rw [List.map_append]
        exact (tF.mono fun c vs hc => kt c vs (s12 _ _ hc)).app (tz.mono kt)
    · rintro σ H' ⟨v4, v5, rfl, b, e1, e2, ys, ee, hL2, hF, tF⟩
      rw [lt, List.drop_length] at hL2
      cases hL2
      rw [List.append_nil] at ee
      subst ee
      refine ⟨_, rfl, f, _, rfl, .inl ⟨SqL.of hF, fun t ht => ?_⟩⟩
      have s1 := same_new ht (.tup ys)
      exact q t _ ys ((same H' b).trans s1) ((same H' b).free ht) upd_same (tF.mono fun c vs hc => s1 _ _ hc)
end
end Kp
end
section
set_option Elab.async false
set_option linter.all false
set_option maxRecDepth 100000
set_option maxHeartbeats 4000000
namespace Kp
open PySem L2

open Ka
def rTupOf (K : PySem.W.Frag) : List V → Hp → VK → Prop := fun xs H Q => ∃ (p : Addr) (ys : List V), xs = [V.ref p] ∧ ((SqL K H p ys ∧ ∀ (l : Addr), H l = none → Q (V.ref l) (upd H l (HO.tup ys))) ∨ (SqT K H p ys ∧ Q (V.ref p) H))
theorem TupsAt.get {H : Hp} {xs : List V} {vss : List (List V)} (h : TupsAt H xs vss) : ∀ {i : Nat} {x : V}, xs[i]? = some x → ∃ a vs, x = .ref a ∧ vss[i]? = some vs ∧ H a = some (.tup vs) := by
  induction h with
  | nil => intro i x q; simp at q
  | @cons a vs xs vss h _ ih =>
    intro i x q
    cases i with
    | zero => exact ⟨a, vs, (Option.some.inj q).symm, rfl, h⟩
    | succ i => exact ih (i := i) (by simpa using q)
theorem TupsAt.keep {H H' : Hp} {xs : List V} {vss : List (List V)} (h : TupsAt H xs vss) (e : Same H H') : TupsAt H' xs vss := h.mono fun a vs q => e a _ q
/-- where the edges of es from p lead -/
def stopsOf (es : List Edge) (p : Nat) : List V := (es.filter (from_ p)).map fun e => V.int (e.t : Nat)
theorem stops_snoc (es : List Edge) (e : Edge) (p : Nat) : stopsOf (es ++ [e]) p = if e.s = p then stopsOf es p ++ [.int (e.t : Nat)] else stopsOf es p := by
  unfold stopsOf
  rw [List.filter_append]
  by_cases h : e.s = p
  · rw [if_pos h, from_pos h]; simp
  · rw [if_neg h, from_neg h]; simp
theorem take_snoc {α : Type} {l : List α} {i : Nat} {x : α} (h : l[i]? = some x) : l.take (i + 1) = l.take i ++ [x] := by
  rw [List.take_add_one, h]; rfl
theorem stops_len (es : List Edge) (p : Nat) : (stopsOf es p).length ≤ es.length := by
  unfold stopsOf; rw [List.length_map]; exact List.length_filter_le _ _
section
variable {P : Program} {w : World} {K : PySem.W.Frag} {mg : Str → Option Value} {base : Heap}
def spFollow (K : PySem.W.Frag) : Sp := fun vs H Q _ => ∃ (t : Addr) (m : Nat) (xs : List V) (es : List Edge), vs = [.ref t, .int (m : Nat)] ∧ SqT K H t xs ∧ TupsAt H xs (es.map Edge.vals) ∧ (∀ e ∈ es, e.s < m) ∧ m ≤ 500 ∧ es.length ≤ 900 ∧
  ∀ (p : Addr) (H' : Hp) (ys : List V), Same H H' → H p = none → H' p = some (.tup ys) → TupsAt H' ys ((List.range m).map (stopsOf es)) → Q (.ref p) H'
theorem scN_follow : FnScope ["edges", "many", "found", "_", "start", "stop", "stops"] ["edges", "many"] (defScope s_followers_of) := ⟨rfl, rfl, rfl, by decide +kernel, rfl, by decide +kernel, by decide +kernel⟩
theorem ok_follow (T : Tx K w mg) : FnOk P w K mg base CX0 1 T.f_followers_of T.d_followers_of ["edges", "many"] (spFollow K) := by
  refine T.followers_of.F.ok scN_follow (fun vs H Q E h => ?_) (fun cdv A outer s H vs Q E hr h => ?_)
  · obtain ⟨t, m, xs, es, rfl, _⟩ := h
    rfl
  · obtain ⟨t, m, xs, es, rfl, ht, hx, hlt, hm, hz, q⟩ := h
    refine ⟨_, (Evl.pss_cut (ps_setLc (i := 2) (own := [("_", 3)]) (g := gName 3) (tt := tYes) rfl scN_follow.nd rfl rfl (sw_true rfl rfl rfl (by decide +kernel)) (pi_range1 rfl T.B.range (pa_cons (pv 1) pa_nil)) (blkOk_by (own := [("_", 3)]) (N := ["edges", "many", "found", "_", "start", "stop", "stops"]) (sc := defScope s_followers_of) (by decide +kernel)) (fun _ _ _ _ _ => (pg_name (i := 3) scN_follow.nd rfl (.inl rfl))) (fun _ _ _ _ _ => pts_nil) (fun _ _ _ _ _ => (pe_lst pa_nil)))
        (Evl.pss_cut (ps_for PassesOwn.never rfl (pi_tup (pv 0)) (pg_tup rfl (pgs_cons (pg_name (i := 4) scN_follow.nd rfl (.inl rfl)) (pgs_cons (pg_name (i := 3) scN_follow.nd rfl (.inl rfl)) (pgs_cons (pg_name (i := 5) scN_follow.nd rfl (.inl rfl)) pgs_nil)))) (pss_one (ps_expr (pe_bm PySem.F.plainAttrs_list PySem.F.slot_list_append PySem.F.type_list_append mt_append (pe_ix ix_list (pv 2) (pv 4) (fun _ _ => rfl)) (pa_cons (pv 5) pa_nil)))))
        (pss_one (ps_ret (pe_callTy call_tuple_of (by rfl) T.B.tuple (by decide +kernel) (pa_cons (pe_lc (own := [("stops", 6)]) (g := gName 6) (tt := tYes) rfl scN_follow.nd (pi_list (pv 2)) (blkOk_by (own := [("stops", 6)]) (N := ["edges", "many", "found", "_", "start", "stop", "stops"]) (sc := defScope s_followers_of) (by decide +kernel)) (fun _ _ _ _ _ => (pg_name (i := 6) scN_follow.nd rfl (.inl rfl))) (fun _ _ _ _ _ => pts_nil) (fun _ _ _ _ _ => (pe_callTy (show CallR _ (.type "tuple") (rTupOf K) from call_tuple_of) (by rfl) T.B.tuple (by decide +kernel) (pa_cons (pv 6) pa_nil)))) pa_nil)))))), ?_⟩
    -- found
    refine ⟨fun σ' H' => ∃ (D : Addr) (as : List Addr), σ' = [some (.ref t), some (.int (m : Nat)), some (.ref D), none, none, none, none] ∧ Same H H' ∧ H D = none ∧ (∀ a ∈ as, H a = none) ∧ as.length = m ∧ as.Nodup ∧ D ∉ as ∧ H' D = some (.lst (as.map V.ref)) ∧ ∀ a ∈ as, H' a = some (.lst []), ?_, ?_⟩
    · refine ⟨_, rfl, _, rfl, by omega, by omega, fun D hD => ?_⟩
      refine lc_range (lo := 0) (n := m) (fun i H' => ∃ as : List Addr, Same H H' ∧ (∀ a ∈ as, H a = none) ∧ as.length = i ∧ as.Nodup ∧ D ∉ as ∧ H' D = some (.lst (as.map V.ref)) ∧ ∀ a ∈ as, H' a = some (.lst [])) ⟨[], same_new hD _, by simp, rfl, .nil, by simp, upd_same, by simp⟩ ?_ ?_
      · rintro i H' hi ⟨as, sm, fr, len, nd, nD, hDl, em⟩
        refine ⟨rfl, Nat.zero_le _, fun p hp => ?_⟩
        have pD : D ≠ p := ne_of_none hDl hp
        have pn : p ∉ as := fun z => by have := em p z; rw [hp] at this; cases this
        refine ⟨as.map V.ref, by rw [upd_ne pD]; exact hDl, by rw [List.length_map, len]; exact small1000 (by omega), as ++ [p], fun c o hc => ?_, ?_, by simp [len], ?_, ?_, ?_, ?_⟩
        · rw [upd_ne (ne_of_none hc hD), upd_ne (ne_of_none (sm _ _ hc) hp)]; exact sm _ _ hc
        · intro a ha
          rcases List.mem_append.mp ha with z | z
          · exact fr a z
          · rw [List.mem_singleton.mp z]; exact sm.free hp
        · rw [List.nodup_append]
          exact ⟨nd, by simp, fun a ha b hb => by rw [List.mem_singleton.mp hb]; intro z; exact pn (z ▸ ha)⟩
        · intro z
          rcases List.mem_append.mp z with z | z
          · exact nD z
          · exact pD (List.mem_singleton.mp z)
        · rw [upd_same, List.map_append]; rfl
        · intro a ha
          rcases List.mem_append.mp ha with z | z
          · rw [upd_ne (fun q => nD (by rw [← q]; exact z)), upd_ne (fun q => pn (by rw [← q]; exact z))]; exact em a z
          · rw [List.mem_singleton.mp z, upd_ne pD.symm]; exact upd_same
      · rintro H' ⟨as, sm, fr, len, nd, nD, hDl, em⟩
        exact ⟨D, as, rfl, sm, hD, fr, len, nd, nD, hDl, em⟩
    rintro σ1 H1 ⟨D, as, rfl, sm, hD, fr, len, nd, nD, hDl, em⟩
    -- for start, _, stop in edges
    refine ⟨fun σ' H' => ∃ v3 v4 v5, σ' = [some (.ref t), some (.int (m : Nat)), some (.ref D), v3, v4, v5, none] ∧ Same H H' ∧ H' D = some (.lst (as.map V.ref)) ∧ ∀ j a, as[j]? = some a → H' a = some (.lst (stopsOf es j)), ?_, ?_⟩
    · have hxl := hx.length
      rw [List.length_map] at hxl
      refine ⟨_, rfl, t, rfl, ⟨_, (Same.keepT sm) _ _ ht⟩, for_it (walk_tup (xs := xs)) (fun i σ' H' => ∃ v3 v4 v5, σ' = [some (.ref t), some (.int (m : Nat)), some (.ref D), v3, v4, v5, none] ∧ Same H H' ∧ H' D = some (.lst (as.map V.ref)) ∧ ∀ j a, as[j]? = some a → H' a = some (.lst (stopsOf (es.take i) j))) ⟨none, none, none, rfl, sm, hDl, fun j a ha => em a (List.mem_of_getElem? ha)⟩ ?_ ?_ ?_⟩
      · rintro i σ' H' _ ⟨_, _, _, _, s2, _⟩
        exact (Same.keepT s2) _ _ ht
      · rintro i x σ' H' H'' hi ⟨v3, v4, v5, rfl, s2, hD2, all⟩ ⟨rfl, hx0⟩
        obtain ⟨a, vs, rfl, hvs, ha⟩ := (hx.keep s2).get hx0
        rw [List.getElem?_map] at hvs
        obtain ⟨e, he, rfl⟩ := Option.map_eq_some_iff.mp hvs
        have hes := hlt e (List.mem_of_getElem? he)
        have hesl : e.s < as.length := by rw [len]; exact hes
        have la := all e.s as[e.s] (List.getElem?_eq_getElem hesl)
        refine ⟨a, _, rfl, SqT.of ha, rfl, _, _, rfl, _, _, rfl, _, _, rfl, rfl, ?_⟩
        have ae : atI (as.map V.ref) ((e.s : Nat) : Int) = some (.ref as[e.s]) := atI_nat (by rw [List.getElem?_map, List.getElem?_eq_getElem hesl]; rfl)
        refine ⟨_, rfl, _, rfl, D, _, _, _, rfl, rfl, SqL.of hD2, ae, .inl ⟨rfl, _, SqL.of la⟩, _, rfl, as[e.s], _, _, rfl, rfl, la, ?_, ?_⟩
        · have z1 := stops_len (es.take i) e.s
          have z2 : (es.take i).length ≤ es.length := by rw [List.length_take]; omega
          exact small1000 (by omega)
        · refine ⟨_, _, _, rfl, fun c o hc => ?_, ?_, fun j b hb => ?_⟩
          · rw [upd_ne (fun z => ?_)]
            · exact s2 _ _ hc
            · have := fr as[e.s] (List.getElem_mem hesl)
              rw [← z, hc] at this; cases this
          · rw [upd_ne (fun z => nD (by rw [z]; exact List.getElem_mem hesl))]; exact hD2
          · rw [take_snoc he, stops_snoc]
            by_cases hj : e.s = j
            · subst hj
              have eb : b = as[e.s] := by rw [List.getElem?_eq_getElem hesl] at hb; exact (Option.some.inj hb).symm
              rw [if_pos rfl, eb, upd_same]
            · rw [if_neg hj, upd_ne (fun z => ?_)]
              · exact all j b hb
              · exact hj (nd_ix nd (List.getElem?_eq_getElem hesl) (z ▸ hb))
      · rintro σ' H' ⟨v3, v4, v5, rfl, s2, hD2, all⟩
        rw [hxl, List.take_length] at all
        exact ⟨v3, v4, v5, rfl, s2, hD2, all⟩
    rintro σ2 H2 ⟨v3, v4, v5, rfl, s2, hD2, all⟩
    -- the tuples
    refine ⟨_, rfl, D, rfl, ⟨_, SqL.of hD2⟩, fun D2 hD2n => ?_⟩
    have lenm : (as.map V.ref).length = m := by rw [List.length_map]; exact len
    refine lc_list (xs := as.map V.ref) (fun i H' => Same H2 H' ∧ ∃ ys, H' D2 = some (.lst ys) ∧ TupsAt H' ys ((List.range i).map (stopsOf es))) ⟨same_new hD2n _, [], upd_same, .nil⟩ ?_ ?_ ?_
    · rintro i H' _ ⟨s3, _⟩
      exact SqL.of (s3 _ _ hD2)
    · rintro i x H' hx0 ⟨s3, ys, hys, tys⟩
      rw [List.getElem?_map] at hx0
      obtain ⟨a, ha, rfl⟩ := Option.map_eq_some_iff.mp hx0
      have la := s3 _ _ (all i a ha)
      have hi : i < m := by rw [← len]; exact (List.getElem?_eq_some_iff.mp ha).1
      refine ⟨rfl, _, rfl, a, _, rfl, .inl ⟨SqL.of la, fun p hp => ?_⟩⟩
      have pD : D2 ≠ p := ne_of_none hys hp
      have lz : ys.length = i := by have := tys.length; simpa using this
      refine ⟨ys, by rw [upd_ne pD]; exact hys, by rw [lz]; exact small1000 (by omega), fun c o hc => ?_, ys ++ [.ref p], upd_same, ?_⟩
      · rw [upd_ne (ne_of_none hc hD2n), upd_ne (ne_of_none (s3 _ _ hc) hp)]; exact s3 _ _ hc
      · rw [List.range_succ, List.map_append]
        refine TupsAt.snoc (tys.mono fun c vs hc => ?_) ?_
        · rw [upd_ne (ne_of hc hys (by intro z; cases z)), upd_ne (ne_of_none hc hp)]; exact hc
        · rw [upd_ne pD.symm]; exact upd_same
    · rintro H' ⟨s3, ys, hys, tys⟩
      rw [lenm] at tys
      refine ⟨D2, ys, rfl, .inl ⟨SqL.of hys, fun p hp => ?_⟩⟩
      have s4 := same_new hp (.tup ys)
      exact q p _ ys ((s2.trans s3).trans s4) ((s2.trans s3).free hp) upd_same (tys.keep s4)
end
end Kp
end
section
set_option Elab.async false
set_option linter.all false
set_option maxRecDepth 100000
set_option maxHeartbeats 4000000
namespace Kp
open PySem L2

open Ka
theorem around_up {P : List (Option Nat)} {D : List Nat} (h : Chain P D) {s d : Nat} (hd : D[s]? = some d) : (s = 0 ∧ d = 0 ∧ P[s]? = some none) ∨ ∃ p e, d = e + 1 ∧ P[s]? = some (some p) ∧ D[p]? = some e := by
  by_cases h0 : s = 0
  · subst h0
    exact .inl ⟨rfl, by rw [h.zd] at hd; exact (Option.some.inj hd).symm, h.zero⟩
  · obtain ⟨p, e, h1, _, h3, h4⟩ := h.up s (by omega) (by rw [h.len]; exact (List.getElem?_eq_some_iff.mp hd).1)
    exact .inr ⟨p, e, by rw [h4] at hd; exact (Option.some.inj hd).symm, h1, h3⟩
section
variable {P : Program} {w : World} {K : PySem.W.Frag} {mg : Str → Option Value} {base : Heap}
def spSa (K : PySem.W.Frag) (C : Addr) : Sp := fun vs H Q _ => ∃ (o dx p : Addr) (fs : List (Str × V)) (s d : Nat) (Pr : List (Option Nat)) (D : List Nat), vs = [.ref o, .int (s : Nat)] ∧ H o = some (.ins C dx fs) ∧ fs.lookup ("parents" : Str) = some (V.ref p) ∧ SqT K H p (Pr.map opV) ∧ Chain Pr D ∧ D[s]? = some d ∧ d ≤ 6 ∧
  ∀ (t : Addr) (H' : Hp), Same H H' → H t = none → H' t = some (.tup ((around Pr 6 s).map fun n => V.int (n : Nat))) → Q (.ref t) H'
theorem scN_sa : FnScope ["self", "number", "around", "scope"] ["self", "number"] (defScope s_Program_scopes_around) := ⟨rfl, rfl, rfl, by decide +kernel, rfl, by decide +kernel, by decide +kernel⟩
theorem ok_sa (T : Tx K w mg) : FnOk P w K mg base CX0 1 T.f_Program_scopes_around T.d_Program_scopes_around ["self", "number"] (spSa K T.C_Program) := by
  refine T.Program_scopes_around.F.ok scN_sa (fun vs H Q E h => ?_) (fun cdv A outer s H vs Q E hr h => ?_)
  · obtain ⟨o, dx, p, fs, s, d, Pr, D, rfl, _⟩ := h
    rfl
  · obtain ⟨o, dx, p, fs, s0, d, Pr, D, rfl, ho, hf, hp, hC, hd, hd6, q⟩ := h
    refine ⟨_, (pss_cons (ps_set (i := 2) scN_sa.nd rfl (.inl rfl) (pe_lst pa_nil))
        (pss_cons (ps_set (i := 3) scN_sa.nd rfl (.inl rfl) (pv 1))
        (pss_cons (ps_while PassesOwn.never (pt_cmpR op_notN (pv 3) pe_non (nomark _)) (pss_cons (ps_expr (pe_bm PySem.F.plainAttrs_list PySem.F.slot_list_append PySem.F.type_list_append mt_append (pv 2) (pa_cons (pv 3) pa_nil)))
        (pss_one (ps_set (i := 3) scN_sa.nd rfl (.inl rfl) (pe_ix ix_tup (pe_fld (pv 0) rfl) (pv 3) (fun _ _ => rfl))))))
        (pss_one (ps_ret (pe_callTy call_tuple_of (by rfl) T.B.tuple (by decide +kernel) (pa_cons (pv 2) pa_nil))))))), ?_⟩
    refine ⟨Nat.zero_le _, fun a ha => ?_⟩
    refine ⟨_, rfl, ?_⟩
    have no : ∀ H', But [a] (upd H a (.lst [])) H' → Same H H' := fun H' b c u e => b c u (by rw [upd_ne (ne_of_none e ha)]; exact e) (by simp only [List.mem_singleton]; exact ne_of_none e ha)
    refine ⟨fun m σ H' => ∃ (acc : List Nat) (x : V), σ = [some (.ref o), some (.int (s0 : Nat)), some (.ref a), some x] ∧ But [a] (upd H a (.lst [])) H' ∧ H' a = some (.lst (acc.map fun n => V.int (n : Nat))) ∧
      ((x = .non ∧ m = 0 ∧ acc = around Pr d s0) ∨ ∃ s1 e, x = .int (s1 : Nat) ∧ m = e + 1 ∧ D[s1]? = some e ∧ e ≤ d ∧ acc.length + e = d ∧ around Pr d s0 = acc ++ around Pr e s1), ⟨d + 1, [], .int (s0 : Nat), rfl, But.refl _ _, upd_same, .inr ⟨s0, d, rfl, rfl, hd, Nat.le_refl _, by simp, rfl⟩⟩, ?_⟩
    rintro m σ H' ⟨acc, x, rfl, b, hA, hc⟩
    have sm := no H' b
    rcases hc with ⟨rfl, rfl, ea⟩ | ⟨s1, e, rfl, rfl, he, hle, hlen, ea⟩
    · refine ⟨_, rfl, rfl, _, rfl, iteF (A := True) ?_⟩
      refine ⟨_, rfl, a, _, rfl, .inl ⟨SqL.of hA, fun t ht => ?_⟩⟩
      refine q t _ (sm.trans (same_new ht _)) (sm.free ht) ?_
      rw [upd_same, ea, (around_all hC d 6 s0 hd hd6).2]
    · refine ⟨_, rfl, rfl, _, rfl, iteT (B := True) ?_⟩
      refine ⟨fun σ2 H2 => ∃ (acc2 : List Nat) (x2 : V), σ2 = [some (.ref o), some (.int (s0 : Nat)), some (.ref a), some x2] ∧ But [a] (upd H a (.lst [])) H2 ∧ H2 a = some (.lst (acc2.map fun n => V.int (n : Nat))) ∧
        ((x2 = .non ∧ acc2 = around Pr d s0) ∨ ∃ s2 e2, e2 < e ∧ x2 = .int (s2 : Nat) ∧ D[s2]? = some e2 ∧ acc2.length + e2 = d ∧ around Pr d s0 = acc2 ++ around Pr e2 s2), ?_, ?_⟩
      · rintro σ2 H2 ⟨acc2, x2, rfl, b2, hA2, hc2⟩
        rcases hc2 with ⟨rfl, e2⟩ | ⟨s2, e2, lt, rfl, h2, h3, h4⟩
        · exact ⟨0, by omega, acc2, .non, rfl, b2, hA2, .inl ⟨rfl, rfl, e2⟩⟩
        · exact ⟨e2 + 1, by omega, acc2, _, rfl, b2, hA2, .inr ⟨s2, e2, rfl, rfl, h2, by omega, h3, h4⟩⟩
      · refine ⟨_, rfl, .inl ⟨rfl, _, SqL.of hA⟩, _, rfl, a, _, _, rfl, rfl, hA, by rw [List.length_map]; exact small1000 (by omega), ?_⟩
        have hs1 : s1 < Pr.length := by rw [hC.len]; exact (List.getElem?_eq_some_iff.mp he).1
        have sm2 : Same H (upd H' a (.lst (acc.map (fun n => V.int (n : Nat)) ++ [.int (s1 : Nat)]))) := fun c u hc => by rw [upd_ne (ne_of_none hc ha)]; exact sm c u hc
        have eA : (acc.map (fun n => V.int (n : Nat)) ++ [V.int (s1 : Nat)]) = (acc ++ [s1]).map fun n => V.int (n : Nat) := by rw [List.map_append]; rfl
        refine ⟨_, rfl, o, _, dx, _, _, rfl, sm2 _ _ ho, T.cl_Program, T.n_Program_parents, hf, _, rfl, p, _, _, opV (Pr[s1]), rfl, rfl, (Same.keepT sm2) _ _ hp, atI_nat (by rw [List.getElem?_map, List.getElem?_eq_getElem hs1]; rfl), ?_⟩
        refine ⟨acc ++ [s1], _, rfl, b.trans (But.upd (by simp) _), by rw [upd_same, eA], ?_⟩
        rcases around_up hC he with ⟨rfl, rfl, hn⟩ | ⟨p2, e2, rfl, hn, h3⟩
        · have : Pr[0] = none := by rw [List.getElem?_eq_getElem hs1] at hn; exact Option.some.inj hn
          exact .inl ⟨by rw [this]; rfl, by rw [ea]; rfl⟩
        · have : Pr[s1] = some p2 := by rw [List.getElem?_eq_getElem hs1] at hn; exact Option.some.inj hn
          refine .inr ⟨p2, e2, by omega, by rw [this]; rfl, h3, by rw [List.length_append, List.length_singleton]; omega, ?_⟩
          rw [ea, List.append_assoc]
          congr 1
          rw [around, hn]; rfl
end
end Kp
end
section
set_option Elab.async false
set_option linter.all false
set_option maxRecDepth 100000
set_option maxHeartbeats 4000000
namespace Kp
open PySem L2

open Ka
/-- the attributes that an object has so far, each of a new thing -/
structure LI (H0 H : Hp) (x C dx : Addr) (n : Nat) (as : List (Addr × HO)) : Prop where
  o : H x = some (.ins C dx ((ns8.take n).zip (as.map fun p => V.ref p.1)))
  l : as.length = n
  a : ∀ p ∈ as, H p.1 = some p.2 ∧ H0 p.1 = none
  nd : (as.map (·.1)).Nodup
  b : But [x] H0 H
theorem LI.step {H0 H : Hp} {x C dx : Addr} {n : Nat} {as : List (Addr × HO)} (h : LI H0 H x C dx n as) {p : Addr} {k : Str} (hp : H p = none) (o : HO) (hx : H0 x ≠ none) (hk : ns8[n]? = some k) :
    ∃ fs, (upd H p o) x = some (.ins C dx fs) ∧ fs.length < 1000 ∧ LI H0 (upd (upd H p o) x (.ins C dx (putF k (.ref p) fs))) x C dx (n + 1) (as ++ [(p, o)]) := by
  have px : x ≠ p := ne_of_none h.o hp
  have hn : n < 8 := (List.getElem?_eq_some_iff.mp hk).1
  have lt : (ns8.take n).length = n := by rw [List.length_take]; show min n 8 = n; omega
  have pf : ∀ q ∈ as, q.1 ≠ p := fun q hq z => by have := (h.a q hq).1; rw [z, hp] at this; cases this
  have xf : ∀ q ∈ as, q.1 ≠ x := fun q hq z => hx (by rw [← z]; exact (h.a q hq).2)
  have p0 : H0 p = none := h.b.free hp (by simp only [List.mem_singleton]; exact px.symm)
  have nk : k ∉ ns8.take n := fun z => by
    obtain ⟨i, hi⟩ := List.mem_iff_getElem?.mp z
    have hil : i < n := by have := (List.getElem?_eq_some_iff.mp hi).1; omega
    rw [List.getElem?_take, if_pos hil] at hi
    have := nd_ix ns8_nd hi hk
    omega
  refine ⟨_, by rw [upd_ne px]; exact h.o, ?_, ?_⟩
  · rw [List.length_zip, lt, List.length_map, h.l]; omega
  · refine ⟨?_, by simp [h.l], fun q hq => ?_, ?_, ?_⟩
    · rw [upd_same, putF_zip nk (by rw [lt, List.length_map, h.l]), List.map_append, take_snoc hk]; rfl
    · rcases List.mem_append.mp hq with z | z
      · rw [upd_ne (xf q z), upd_ne (pf q z)]; exact h.a q z
      · rw [List.mem_singleton.mp z]
        exact ⟨by rw [upd_ne px.symm]; exact upd_same, p0⟩
    · rw [List.map_append, List.nodup_append]
      refine ⟨h.nd, by simp, fun a ha b hb => ?_⟩
      obtain ⟨q, hq, rfl⟩ := List.mem_map.mp ha
      have : b = p := by simpa using hb
      rw [this]; exact pf q hq
    · exact h.b.trans ((But.same (same_new hp o) _).trans (But.upd (by simp) _))
section
variable {P : Program} {w : World} {K : PySem.W.Frag} {mg : Str → Option Value} {base : Heap}
def spLinit (C : Addr) : Sp := fun vs H Q _ => ∃ (x dx : Addr), vs = [.ref x] ∧ H x = some (.ins C dx []) ∧ ∀ (A : LAd) (H' : Hp), A.o = x → (∀ m ∈ A.ms, H m = none) → But [x] H H' → LayAt C H' A Lay.new → Q .non H'
theorem scN_linit : FnScope ["self"] ["self"] (defScope s_Layout_init) := ⟨rfl, rfl, rfl, by decide +kernel, rfl, by decide +kernel, by decide +kernel⟩
theorem ok_linit (T : Tx K w mg) : FnOk P w K mg base CX0 1 T.f_Layout_init T.d_Layout_init ["self"] (spLinit T.C_Layout) := by
  refine T.Layout_init.F.ok scN_linit (fun vs H Q E h => ?_) (fun cdv A outer s H vs Q E hr h => ?_)
  · obtain ⟨x, dx, rfl, _⟩ := h
    rfl
  · obtain ⟨x, dx, rfl, hx, q⟩ := h
    refine ⟨_, (pss_cons (ps_fld (pv 0) (pe_lst (pa_cons pe_str pa_nil)) rfl)
        (pss_cons (ps_fld (pv 0) (pe_lst (pa_cons pe_non pa_nil)) rfl)
        (pss_cons (ps_fld (pv 0) (pe_lst (pa_cons pe_non pa_nil)) rfl)
        (pss_cons (ps_fld (pv 0) (pe_lst (pa_cons pe_non pa_nil)) rfl)
        (pss_cons (ps_fld (pv 0) (pe_lst (pa_cons pe_int pa_nil)) rfl)
        (pss_cons (ps_fld (pv 0) (pe_lst (pa_cons pe_int pa_nil)) rfl)
        (pss_cons (ps_fld (pv 0) pe_dnewK rfl)
        (pss_one (ps_fld (pv 0) pe_dnewK rfl))))))))), ?_⟩
    have hn : H x ≠ none := by rw [hx]; intro z; cases z
    have h0 : LI H H x T.C_Layout dx 0 [] := ⟨hx, rfl, by simp, .nil, But.refl _ _⟩
    refine ⟨by show 1 ≤ sizeLine; decide, fun p1 f1 => ?_⟩
    obtain ⟨fs1, e1, z1, h1⟩ := h0.step f1 (.lst [.str "program"]) hn rfl
    refine ⟨_, rfl, x, _, dx, fs1, rfl, e1, T.cl_Layout, T.n_Layout_kinds, z1, ?_⟩
    refine ⟨by show 1 ≤ sizeLine; decide, fun p2 f2 => ?_⟩
    obtain ⟨fs2, e2, z2, h2⟩ := h1.step f2 (.lst [.non]) hn rfl
    refine ⟨_, rfl, x, _, dx, fs2, rfl, e2, T.cl_Layout, T.n_Layout_starts, z2, ?_⟩
    refine ⟨by show 1 ≤ sizeLine; decide, fun p3 f3 => ?_⟩
    obtain ⟨fs3, e3, z3, h3⟩ := h2.step f3 (.lst [.non]) hn rfl
    refine ⟨_, rfl, x, _, dx, fs3, rfl, e3, T.cl_Layout, T.n_Layout_ends, z3, ?_⟩
    refine ⟨by show 1 ≤ sizeLine; decide, fun p4 f4 => ?_⟩
    obtain ⟨fs4, e4, z4, h4⟩ := h3.step f4 (.lst [.non]) hn rfl
    refine ⟨_, rfl, x, _, dx, fs4, rfl, e4, T.cl_Layout, T.n_Layout_parents, z4, ?_⟩
    refine ⟨by show 1 ≤ sizeLine; decide, fun p5 f5 => ?_⟩
    obtain ⟨fs5, e5, z5, h5⟩ := h4.step f5 (.lst [.int 0]) hn rfl
    refine ⟨_, rfl, x, _, dx, fs5, rfl, e5, T.cl_Layout, T.n_Layout_depths, z5, ?_⟩
    refine ⟨by show 1 ≤ sizeLine; decide, fun p6 f6 => ?_⟩
    obtain ⟨fs6, e6, z6, h6⟩ := h5.step f6 (.lst [.int 0]) hn rfl
    refine ⟨_, rfl, x, _, dx, fs6, rfl, e6, T.cl_Layout, T.n_Layout_point_scopes, z6, ?_⟩
    intro p7 f7
    obtain ⟨fs7, e7, z7, h7⟩ := h6.step f7 (.dK []) hn rfl
    refine ⟨_, rfl, x, _, dx, fs7, rfl, e7, T.cl_Layout, T.n_Layout_begun, z7, ?_⟩
    intro p8 f8
    obtain ⟨fs8, e8, z8, h8⟩ := h7.step f8 (.dK []) hn rfl
    refine ⟨_, rfl, x, _, dx, fs8, rfl, e8, T.cl_Layout, T.n_Layout_ended, z8, ?_⟩
    have al : ∀ p o, (p, o) ∈ [(p1, HO.lst [.str "program"]), (p2, HO.lst [.non]), (p3, HO.lst [.non]), (p4, HO.lst [.non]), (p5, HO.lst [.int 0]), (p6, HO.lst [.int 0]), (p7, HO.dK []), (p8, HO.dK [])] → _ := fun p o hm => (h8.a (p, o) hm).1
    have nd : [p1, p2, p3, p4, p5, p6, p7, p8].Nodup := h8.nd
    refine q ⟨x, p1, p2, p3, p4, p5, p6, p7, p8⟩ _ rfl (fun m hm => ?_) h8.b ?_
    · have : m ∈ [p1, p2, p3, p4, p5, p6, p7, p8] := hm
      have : m ∈ ([(p1, HO.lst [.str "program"]), (p2, HO.lst [.non]), (p3, HO.lst [.non]), (p4, HO.lst [.non]), (p5, HO.lst [.int 0]), (p6, HO.lst [.int 0]), (p7, HO.dK []), (p8, HO.dK [])]).map (·.1) := this
      obtain ⟨pq, hq, rfl⟩ := List.mem_map.mp this
      exact (h8.a pq hq).2
    · refine ⟨⟨dx, h8.o⟩, al p1 (.lst [.str "program"]) (by simp), al p2 (.lst [.non]) (by simp), al p3 (.lst [.non]) (by simp), al p4 (.lst [.non]) (by simp), al p5 (.lst [.int 0]) (by simp), al p6 (.lst [.int 0]) (by simp), al p7 (.dK []) (by simp), al p8 (.dK []) (by simp), ?_, ?_⟩
      · simp only [List.nodup_cons, List.mem_cons, List.not_mem_nil, or_false, not_or] at nd ⊢
        exact ⟨⟨nd.1.1, nd.1.2.1, nd.1.2.2.1, nd.1.2.2.2.1, nd.1.2.2.2.2.1⟩, ⟨nd.2.1.1, nd.2.1.2.1, nd.2.1.2.2.1, nd.2.1.2.2.2.1⟩, ⟨nd.2.2.1.1, nd.2.2.1.2.1, nd.2.2.1.2.2.1⟩, ⟨nd.2.2.2.1.1, nd.2.2.2.1.2.1⟩, nd.2.2.2.2.1.1, by simp, .nil⟩
      · simp only [List.nodup_cons, List.mem_cons, List.not_mem_nil, or_false, not_or] at nd
        exact nd.2.2.2.2.2.2.1
end
end Kp
end
section
set_option Elab.async false
set_option linter.all false
set_option maxRecDepth 100000
set_option maxHeartbeats 4000000
namespace Kp
open PySem L2

open Ka
inductive Steps : Ka.Lay → List Stm → Prop where
  | nil {L : Ka.Lay} : Steps L []
  | cons {L : Ka.Lay} {s : Stm} {ss : List Stm} : Lay.fits L s → (Stm.isEnd s = true → ∃ p, L.parents[L.cur]? = some (some p) ∧ p < L.kinds.length) → Steps (L.take s) ss → Steps L (s :: ss)
theorem Steps.app : ∀ {a b : List Stm} {L : Ka.Lay}, Steps L a → Steps (L.run a) b → Steps L (a ++ b)
  | [], b, L, _, h => h
  | s :: a, b, L, .cons f p h, g => .cons f p (Steps.app h g)
/-- the scope that was begun last but for those within it: its kind, and what is around it -/
theorem mid_kind {L : Ka.Lay} {s d e p : Nat} (h : L.Ok s d) (k : Kd) (b : Ka.Tree) (hp : p < L.kinds.length) (he : L.depths[p]? = some e) :
    (((L.begin_ k p).push L.kinds.length).after b L.kinds.length (e + 1)).cur = L.kinds.length ∧ (((L.begin_ k p).push L.kinds.length).after b L.kinds.length (e + 1)).kinds[L.kinds.length]? = some k ∧
    (((L.begin_ k p).push L.kinds.length).after b L.kinds.length (e + 1)).parents[L.kinds.length]? = some (some p) ∧ p < (((L.begin_ k p).push L.kinds.length).after b L.kinds.length (e + 1)).kinds.length := by
  refine ⟨((h.begun k hp he).after b).cur, ?_, ?_, ?_⟩
  · show ((L.kinds ++ [k]) ++ b.kinds)[L.kinds.length]? = _
    rw [List.append_assoc, List.singleton_append, get_mid]
  · show ((L.parents ++ [some p]) ++ (b.parents _ _).map some)[L.kinds.length]? = _
    rw [List.append_assoc, List.singleton_append, ← h.lp, get_mid]
  · show p < ((L.kinds ++ [k]) ++ b.kinds).length
    simp; omega
theorem steps_tree (T : Ka.Tree) : ∀ (L : Ka.Lay) (s d : Nat), L.Ok s d → Steps L T.flat := by
  induction T with
  | nil => intro L s d _; exact .nil
  | ln l r ih =>
    intro L s d h
    refine .cons trivial (fun z => by cases z) ?_
    show Steps (L.push L.cur) r.flat
    rw [h.cur]
    exact ih _ s d h.rows.push
  | blk w b r ihb ihr =>
    intro L s d h
    have hc := h.cur
    have h1 := h.begun (Tree.kd w) (p := s) h.lt h.dep
    have e1 : L.take (Tree.st w) = (L.begin_ (Tree.kd w) s).push L.kinds.length := by cases w <;> (simp only [Tree.st, Tree.kd, if_true, if_false, Bool.false_eq_true, Ka.Lay.take, hc])
    show Steps L (Tree.st w :: (b.flat ++ .fin :: r.flat))
    refine .cons (by cases w <;> exact trivial) (fun z => by cases w <;> cases z) ?_
    rw [e1]
    refine (ihb _ _ _ h1).app ?_
    rw [run_tree b _ _ _ h1]
    obtain ⟨c1, c2, c3, c4⟩ := mid_kind h (Tree.kd w) b h.lt h.dep
    obtain ⟨s1, s2⟩ := shut_eq h (Tree.kd w) b h.lt h.dep
    refine .cons ⟨by rw [c1]; have := h.lt; omega, _, by rw [c1]; exact c2, by cases w <;> (intro z; cases z)⟩ (fun _ => ⟨s, by rw [c1]; exact c3, c4⟩) ?_
    show Steps ((Ka.Lay.end_ _).push (Ka.Lay.up _)) r.flat
    rw [s1, s2]
    exact ihr _ s d (Ka.Lay.shut_rows h.rows _ _).push
  | br a b r iha ihb ihr =>
    intro L s d h
    have hc := h.cur
    have h1 := h.begun .iff (p := s) h.lt h.dep
    have e1 : L.take .iff = (L.begin_ .iff s).push L.kinds.length := by simp only [Ka.Lay.take, hc]
    show Steps L (.iff :: (a.flat ++ .els :: (b.flat ++ .fin :: r.flat)))
    refine .cons trivial (fun z => by cases z) ?_
    rw [e1]
    refine (iha _ _ _ h1).app ?_
    rw [run_tree a _ _ _ h1]
    obtain ⟨c1, c2, c3, c4⟩ := mid_kind h .iff a h.lt h.dep
    obtain ⟨s1, s2⟩ := shut_eq h .iff a h.lt h.dep
    refine .cons (by show _ = _; rw [c1]; exact c2) (fun _ => ⟨s, by rw [c1]; exact c3, c4⟩) ?_
    show Steps (((Ka.Lay.end_ _).begin_ .els (Ka.Lay.up _)).push (Ka.Lay.kinds _).length) (b.flat ++ .fin :: r.flat)
    have kE : (((L.begin_ .iff s).push L.kinds.length).after a L.kinds.length (d + 1)).kinds = (((L.begin_ .iff s).push L.kinds.length).after a L.kinds.length (d + 1)).end_.kinds := rfl
    have R1 := Ka.Lay.shut_rows h.rows .iff a
    have hA : (L.shut .iff s d a).Ok L.kinds.length (d + 1) := by
      have e : (L.shut .iff s d a).pts = (((L.begin_ .iff s).push L.kinds.length).after a L.kinds.length (d + 1)).pts := by rw [← s1]; rfl
      refine ⟨R1.ne, ?_, ?_, ?_, R1.ls, R1.le, R1.lp, R1.ld⟩
      · unfold Ka.Lay.cur at c1 ⊢
        rw [e]; exact c1
      · rw [Ka.Lay.shut_len]; omega
      · show (L.depths ++ (d + 1) :: _)[L.kinds.length]? = _
        rw [← h.ld, get_mid]
    rw [kE, s1, s2]
    have h4 := hA.begun .els (p := s) R1.lt R1.dep
    refine (ihb _ _ _ h4).app ?_
    rw [run_tree b _ _ _ h4]
    obtain ⟨d1, d2, d3, d4⟩ := mid_kind hA .els b R1.lt R1.dep
    obtain ⟨t1, t2⟩ := shut_eq hA .els b R1.lt R1.dep
    refine .cons ⟨by rw [d1]; have := hA.lt; omega, _, by rw [d1]; exact d2, by intro z; cases z⟩ (fun _ => ⟨s, by rw [d1]; exact d3, d4⟩) ?_
    show Steps ((Ka.Lay.end_ _).push (Ka.Lay.up _)) r.flat
    rw [t1, t2]
    exact ihr _ s d (Ka.Lay.shut_rows R1 .els b).push
/-- the rows of a layout on its way -/
structure J (L : Ka.Lay) (q : Nat) : Prop where
  ne : L.pts ≠ []
  lt : L.cur < L.kinds.length
  ls : L.starts.length = L.kinds.length
  le : L.ends.length = L.kinds.length
  lp : L.parents.length = L.kinds.length
  ld : L.depths.length = L.kinds.length
  b : ∀ p ∈ L.begun, p.1 < L.line
  n : ∀ p ∈ L.ended, p.1 < L.line
  z : L.kinds.length ≤ q + 1
  y : L.pts.length = q + 1
  bz : L.begun.length ≤ q
  nz : L.ended.length ≤ q
theorem J.wf {L : Ka.Lay} {n : Nat} (h : J L n) (hn : n ≤ 400) : Lay.Wf L :=
  ⟨h.ne, h.lt, h.ls, h.le, h.lp, h.ld, h.b, h.n, by have := h.z; omega, by have := h.y; omega, by have := h.bz; omega, by have := h.nz; omega⟩
theorem j_new : J Ka.Lay.new 0 := ⟨by decide, by decide, rfl, rfl, rfl, rfl, (by intro p hp; cases hp), (by intro p hp; cases hp), by decide, rfl, by decide, by decide⟩
theorem J.line {L : Ka.Lay} {n : Nat} (h : J L n) : L.line = n := by have := h.y; show L.pts.length - 1 = n; omega
theorem J.take {L : Ka.Lay} {n : Nat} (h : J L n) (s : Stm) (hs : Stm.isEnd s = true → ∃ p, L.parents[L.cur]? = some (some p) ∧ p < L.kinds.length) : J (L.take s) (n + 1) := by
  have ln : ∀ x, (L.push x).line = n + 1 := fun x => by rw [line_snoc h.ne, h.line]
  obtain ⟨ne, lt, ls, le, lp, ld, b, nn, z, y, bz, nz⟩ := h
  have bb : ∀ k p, ((L.begin_ k p).push L.kinds.length).line = n + 1 := fun k p => by show (L.pts ++ [_]).length - 1 = n + 1; simp [y]
  have lL : L.line = n := by show L.pts.length - 1 = n; omega
  have beg : ∀ k : Kd, J ((L.begin_ k L.cur).push L.kinds.length) (n + 1) := fun k => by
    refine ⟨by show L.pts ++ _ ≠ []; simp, ?_, by show (L.starts ++ _).length = (L.kinds ++ _).length; simp [ls], by show (L.ends ++ _).length = (L.kinds ++ _).length; simp [le], by show (L.parents ++ _).length = (L.kinds ++ _).length; simp [lp], by show (L.depths ++ _).length = (L.kinds ++ _).length; simp [ld], ?_, ?_, ?_, ?_, ?_, ?_⟩
    · rw [cur_push]; show _ < (L.kinds ++ _).length; simp
    · intro p hp
      rw [bb]
      have hp : p ∈ L.begun ++ [(L.line, L.kinds.length)] := hp
      rcases List.mem_append.mp hp with q | q
      · have := b p q; omega
      · rw [List.mem_singleton.mp q]; show L.line < n + 1; omega
    · intro p hp
      rw [bb]; have := nn p hp; omega
    · show (L.kinds ++ _).length ≤ _; simp; omega
    · show (L.pts ++ _).length = _; simp [y]
    · show (L.begun ++ _).length ≤ _; simp; omega
    · show L.ended.length ≤ _; omega
  cases s with
  | pl l =>
    exact ⟨by show L.pts ++ _ ≠ []; simp, by rw [show L.take (.pl l) = L.push L.cur from rfl, cur_push]; exact lt, ls, le, lp, ld, fun p hp => by rw [show L.take (.pl l) = L.push L.cur from rfl, ln]; have := b p hp; omega, fun p hp => by rw [show L.take (.pl l) = L.push L.cur from rfl, ln]; have := nn p hp; omega,
      by show L.kinds.length ≤ _; omega, by show (L.pts ++ _).length = _; simp [y], by show L.begun.length ≤ _; omega, by show L.ended.length ≤ _; omega⟩
  | block => exact beg .block
  | iff => exact beg .iff
  | whl => exact beg .whl
  | fin =>
    obtain ⟨p, hp, hp2⟩ := hs rfl
    have hup : L.up = p := by unfold Ka.Lay.up; rw [hp]; rfl
    have l2 : (L.end_.push L.up).line = n + 1 := by show (L.pts ++ [_]).length - 1 = n + 1; simp [y]
    refine ⟨by show L.pts ++ _ ≠ []; simp, ?_, ls, by show (L.ends.set _ _).length = _; rw [List.length_set]; exact le, lp, ld, ?_, ?_, by show L.kinds.length ≤ _; omega, by show (L.pts ++ _).length = _; simp [y], by show L.begun.length ≤ _; omega, by show (L.ended ++ _).length ≤ _; simp; omega⟩
    · rw [show L.take .fin = L.end_.push L.up from rfl, cur_push, hup]; exact hp2
    · intro q hq
      rw [show L.take .fin = L.end_.push L.up from rfl, l2]; have := b q hq; omega
    · intro q hq
      rw [show L.take .fin = L.end_.push L.up from rfl, l2]
      have hq : q ∈ L.ended ++ [(L.line, L.cur)] := hq
      rcases List.mem_append.mp hq with t | t
      · have := nn q t; omega
      · rw [List.mem_singleton.mp t]; show L.line < n + 1; omega
  | els =>
    obtain ⟨p, hp, hp2⟩ := hs rfl
    have l2 : ((L.end_.begin_ .els L.up).push L.kinds.length).line = n + 1 := by show (L.pts ++ [_]).length - 1 = n + 1; simp [y]
    refine ⟨by show L.pts ++ _ ≠ []; simp, ?_, by show (L.starts ++ _).length = (L.kinds ++ _).length; simp [ls], by show (L.ends.set _ _ ++ _).length = (L.kinds ++ _).length; simp [le], by show (L.parents ++ _).length = (L.kinds ++ _).length; simp [lp], by show (L.depths ++ _).length = (L.kinds ++ _).length; simp [ld], ?_, ?_, ?_, ?_, ?_, ?_⟩
    · rw [show L.take .els = (L.end_.begin_ .els L.up).push L.kinds.length from rfl, cur_push]; show _ < (L.kinds ++ _).length; simp
    · intro q hq
      rw [show L.take .els = (L.end_.begin_ .els L.up).push L.kinds.length from rfl, l2]
      have hq : q ∈ L.begun ++ [(L.end_.line, L.kinds.length)] := hq
      rcases List.mem_append.mp hq with t | t
      · have := b q t; omega
      · rw [List.mem_singleton.mp t]; show L.line < n + 1; omega
    · intro q hq
      rw [show L.take .els = (L.end_.begin_ .els L.up).push L.kinds.length from rfl, l2]
      have hq : q ∈ L.ended ++ [(L.line, L.cur)] := hq
      rcases List.mem_append.mp hq with t | t
      · have := nn q t; omega
      · rw [List.mem_singleton.mp t]; show L.line < n + 1; omega
    · show (L.kinds ++ _).length ≤ _; simp; omega
    · show (L.pts ++ _).length = _; simp [y]
    · show (L.begun ++ _).length ≤ _; simp; omega
    · show (L.ended ++ _).length ≤ _; simp; omega
theorem Steps.j : ∀ {ss : List Stm} {L : Ka.Lay} {n : Nat}, Steps L ss → J L n → J (L.run ss) (n + ss.length)
  | [], L, n, _, h => h
  | s :: ss, L, n, .cons f p g, h => by
    have := Steps.j g (h.take s p)
    rw [show n + (s :: ss).length = n + 1 + ss.length by simp; omega]
    exact this
end Kp
end
section
set_option Elab.async false
set_option linter.all false
set_option maxRecDepth 100000
set_option maxHeartbeats 4000000
namespace Kp
open PySem L2

open Ka
section
variable {P : Program} {w : World} {K : PySem.W.Frag} {mg : Str → Option Value} {base : Heap}
def spLd (C : Addr) : Sp := fun vs H Q _ => ∃ (A : LAd) (F : Ka.Lay) (k v : Nat), vs = [.ref A.o, .int (k : Nat)] ∧ LayAt C H A F ∧ ((∃ n p, F.ended.lookup k = some n ∧ F.parents[n]? = some (some p) ∧ F.depths[p]? = some v) ∨ (F.ended.lookup k = none ∧ ∃ s, F.pts[k]? = some s ∧ F.depths[s]? = some v)) ∧ Q (.int (v : Nat)) H
theorem scN_ld : FnScope ["self", "line"] ["self", "line"] (defScope s_Layout_line_depth) := ⟨rfl, rfl, rfl, by decide +kernel, rfl, by decide +kernel, by decide +kernel⟩
theorem pr_none {H : Hp} {a : Addr} {l : List (Nat × Nat)} {k : Nat} (h : H a = some (prD l)) (e : l.lookup k = none) : DGet H a (.int (k : Nat)) none := by
  have z := DGet.k (k := (.inl (k : Nat) : Key)) h
  rw [val_pr, e] at z
  exact z
theorem ok_ld (T : Tx K w mg) : FnOk P w K mg base CX0 1 T.f_Layout_line_depth T.d_Layout_line_depth ["self", "line"] (spLd T.C_Layout) := by
  refine T.Layout_line_depth.F.ok scN_ld (fun vs H Q E h => ?_) (fun cdv A outer s H vs Q E hr h => ?_)
  · obtain ⟨A, F, k, v, rfl, _⟩ := h
    rfl
  · obtain ⟨A, F, k, v, rfl, h, hc, q⟩ := h
    have hu := hu_of hr
    obtain ⟨dx, ho⟩ := h.o
    refine ⟨_, (pss_cons (ps_if (pt_cmp (pc_din hu (pv 1) (pe_fld (pv 0) rfl))) (pss_one (ps_ret (pe_ix ix_list (pe_fld (pv 0) rfl) (pe_ix ix_list (pe_fld (pv 0) rfl) (pe_dget hu (pe_fld (pv 0) rfl) (pv 1) (fun _ _ => rfl)) (fun _ _ => rfl)) (fun _ _ => rfl)))) pss_nil)
        (pss_one (ps_ret (pe_ix ix_list (pe_fld (pv 0) rfl) (pe_ix ix_list (pe_fld (pv 0) rfl) (pv 1) (fun _ _ => rfl)) (fun _ _ => rfl))))), ?_⟩
    rcases hc with ⟨n, p, hn, hp, hv⟩ | ⟨hn, s1, hs, hv⟩
    · refine ⟨_, rfl, _, rfl, A.o, _, dx, _, _, rfl, ho, T.cl_Layout, T.n_Layout_ended, fl_at A 7 rfl rfl, A.n, _, rfl, pr_get h.n hn, _, rfl, iteT (B := True) ?_⟩
      refine ⟨_, rfl, A.o, _, dx, _, _, rfl, ho, T.cl_Layout, T.n_Layout_depths, fl_at A 4 rfl rfl, _, rfl, A.o, _, dx, _, _, rfl, ho, T.cl_Layout, T.n_Layout_parents, fl_at A 3 rfl rfl, _, rfl, A.o, _, dx, _, _, rfl, ho, T.cl_Layout, T.n_Layout_ended, fl_at A 7 rfl rfl, _, rfl, A.n, _, rfl, pr_get h.n hn, A.p, _, _, _, rfl, rfl, SqL.of h.p, op_at hp, A.d, _, _, _, rfl, rfl, SqL.of h.d, nt_at hv, q⟩
    · refine ⟨_, rfl, _, rfl, A.o, _, dx, _, _, rfl, ho, T.cl_Layout, T.n_Layout_ended, fl_at A 7 rfl rfl, A.n, _, rfl, pr_none h.n hn, _, rfl, iteF (A := True) ?_⟩
      refine ⟨_, rfl, A.o, _, dx, _, _, rfl, ho, T.cl_Layout, T.n_Layout_depths, fl_at A 4 rfl rfl, _, rfl, A.o, _, dx, _, _, rfl, ho, T.cl_Layout, T.n_Layout_point_scopes, fl_at A 5 rfl rfl, _, rfl, A.t, _, _, _, rfl, rfl, SqL.of h.t, nt_at hs, A.d, _, _, _, rfl, rfl, SqL.of h.d, nt_at hv, q⟩
def spLayof (K : PySem.W.Frag) (C : Addr) : Sp := fun vs H Q _ => ∃ (t : Addr) (xs : List V) (T : Ka.Tree), vs = [.ref t] ∧ SqT K H t xs ∧ ToldsAt K H xs T.flat ∧ T.flat.length ≤ 400 ∧ ∀ (A : LAd) (H' : Hp), Same H H' → (∀ m ∈ A.o :: A.ms, H m = none) → LayAt C H' A (fin_ T) → Q (.ref A.o) H'
theorem scN_layof : FnScope ["statements", "layout", "at", "statement", "reason"] ["statements"] (defScope s_layout_of) := ⟨rfl, rfl, rfl, by decide +kernel, rfl, by decide +kernel, by decide +kernel⟩
theorem but_same {H H1 H2 : Hp} {ms : List Addr} (s : Same H H1) (b : But ms H1 H2) (h : ∀ m ∈ ms, H m = none) : Same H H2 := fun c o hc => b c o (s c o hc) fun z => by rw [h c z] at hc; cases hc
theorem ok_layof (T : Tx K w mg) : FnOk P w K mg base CX0 3 T.f_layout_of T.d_layout_of ["statements"] (spLayof K T.C_Layout) := by
  have G_Layout_init := ok_linit (P := P) (base := base) T
  have G_Layout_innermost := ok_inner (P := P) (base := base) T
  have G_Layout_misfit := ok_misfit (P := P) (base := base) T
  have G_Layout_take := ok_take2 (P := P) (base := base) T
  refine T.layout_of.F.ok scN_layof (fun vs H Q E h => ?_) (fun cdv A outer s H vs Q E hr h => ?_)
  · obtain ⟨t, xs, Tr, rfl, _⟩ := h
    rfl
  · obtain ⟨t, xs, Tr, rfl, ht, hx, hz, q⟩ := h
    have hr1 := hr.mono (by decide : 1 ≤ 2)
    refine ⟨_, (Evl.pss_cut (ps_set (i := 1) scN_layof.nd rfl (.inl rfl) (pe_make0 T.Layout_init.m G_Layout_init hr (by rfl) T.g_Layout T.Layout_init.b .nil pass0))
        (pss_cons (ps_for PassesOwn.never rfl (pi_enumT (by rfl) T.B.enumerate (pa_cons (pv 0) pa_nil)) (pg_tup rfl (pgs_cons (pg_name (i := 2) scN_layof.nd rfl (.inl rfl)) (pgs_cons (pg_name (i := 3) scN_layof.nd rfl (.inl rfl)) pgs_nil))) (pss_cons (ps_if (pt_cmpR op_isN (pv 3) pe_non (nomark _)) (pss_one ps_never) pss_nil)
        (pss_cons (ps_set (i := 4) scN_layof.nd rfl (.inl rfl) (pe_meth (pv 1) T.cl_Layout T.Layout_misfit.m G_Layout_misfit hr T.Layout_misfit.b .nil pass0 (pa_cons (pe_ix ix_tup (pv 3) pe_int (fun _ _ => rfl)) pa_nil)))
        (pss_cons (ps_if (pt_cmpR op_notN (pv 4) pe_non (nomark _)) (pss_one ps_never) pss_nil)
        (pss_one (ps_expr (pe_meth (pv 1) T.cl_Layout T.Layout_take.m G_Layout_take hr T.Layout_take.b .nil pass0 (pa_cons (pe_ix ix_tup (pv 3) pe_int (fun _ _ => rfl)) pa_nil))))))))
        (pss_cons (ps_if (pt_cmpR op_ne (pe_meth0 (pv 1) T.cl_Layout T.Layout_innermost.m G_Layout_innermost hr1 T.Layout_innermost.b .nil pass0) pe_int (nomark _)) (pss_one ps_never) pss_nil)
        (pss_one (ps_ret (pv 1)))))), ?_⟩
    refine ⟨fun σ' H' => ∃ A : LAd, σ' = [some (.ref t), some (.ref A.o), none, none, none] ∧ Same H H' ∧ LayAt T.C_Layout H' A Ka.Lay.new ∧ ∀ m ∈ A.o :: A.ms, H m = none, ?_, ?_⟩
    · intro x dx hx hdx nx
      refine ⟨x, dx, rfl, upd_same, fun A H' eo frm b l => ⟨rfl, A, by rw [eo]; rfl, ?_, l, ?_⟩⟩
      · intro c o hc
        exact b c o (by rw [upd_ne (ne_of_none hc hx), upd_ne (ne_of_none hc hdx)]; exact hc) (by simp only [List.mem_singleton]; exact ne_of_none hc hx)
      · intro m hm
        rcases List.mem_cons.mp hm with z | z
        · rw [z, eo]; exact hx
        · have := frm m z
          by_cases c1 : m = x
          · rw [c1]; exact hx
          · rw [upd_ne c1] at this
            by_cases c2 : m = dx
            · rw [c2]; exact hdx
            · rw [upd_ne c2] at this; exact this
    rintro σ1 H1 ⟨A, rfl, s1, l1, fr⟩
    have fr' : ∀ m ∈ A.ms, H m = none := fun m hm => fr m (List.mem_cons_of_mem _ hm)
    have xl : xs.length = Tr.flat.length := hx.1
    refine ⟨_, rfl, t, _, rfl, (Same.keepT s1) _ _ ht, for_it (walk_enumT (xs := xs)) (fun i σ H' => ∃ v2 v3 v4, σ = [some (.ref t), some (.ref A.o), v2, v3, v4] ∧ Same H H' ∧ LayAt T.C_Layout H' A (Ka.Lay.new.run (Tr.flat.take i)) ∧ Steps (Ka.Lay.new.run (Tr.flat.take i)) (Tr.flat.drop i) ∧ J (Ka.Lay.new.run (Tr.flat.take i)) i)
      ⟨none, none, none, rfl, s1, l1, steps_tree Tr _ 0 0 new_ok, j_new⟩ ?_ ?_ ?_⟩
    · rintro i σ H' _ ⟨_, _, _, _, s2, _⟩
      exact (Same.keepT s2) _ _ ht
    · rintro i x σ H' H'' hi ⟨v2, v3, v4, rfl, s2, l2, st, j⟩ ⟨T0, x0, y0, rfl, hT0, rfl, ex0, ey0⟩
      cases ex0
      have hi' : i < Tr.flat.length := by rw [← xl]; exact hi
      have si : Tr.flat[i]? = some Tr.flat[i] := List.getElem?_eq_getElem hi'
      obtain ⟨a, ha1, ha2⟩ := hx.2 i _ si
      have ey0 : xs[i]? = some y0 := ey0
      rw [ha1] at ey0
      cases ey0
      have sT := same_new hT0 (.tup [V.int (i : Nat), .ref a])
      have sa := s2.trans sT
      obtain ⟨r, er⟩ := vals_word Tr.flat[i]
      have e0 : atI (Tr.flat[i]).vals 0 = some (.str (Tr.flat[i]).word) := by rw [er]; exact atI_nat (j := 0) rfl
      have tr : SqT K (upd H' T0 (.tup [V.int (i : Nat), .ref a])) a (Tr.flat[i]).vals := (Same.keepT sa) _ _ ha2
      have l3 := l2.mono sT
      refine ⟨T0, [.int (i : Nat), .ref a], rfl, SqT.of upd_same, rfl, _, _, rfl, _, _, rfl, rfl, ?_⟩
      generalize upd H' T0 (.tup [V.int (i : Nat), .ref a]) = H3 at sT sa tr l3 ⊢
      refine ⟨_, rfl, rfl, _, rfl, iteF (A := True) ?_⟩
      obtain ⟨dx, ho⟩ := l3.o
      have wf := j.wf (by omega)
      rw [List.drop_eq_getElem_cons hi'] at st
      cases st with
      | cons fit up st2 =>
        refine ⟨_, rfl, A.o, dx, _, rfl, ho, fl_no A (by decide +kernel), _, rfl, a, _, _, _, rfl, rfl, tr, e0, A, _, Tr.flat[i], rfl, l3, wf.ne, wf.lt, fit, ?_⟩
        refine ⟨_, rfl, rfl, _, rfl, iteF (A := True) ?_⟩
        refine ⟨_, rfl, A.o, dx, _, rfl, ho, fl_no A (by decide +kernel), _, rfl, a, _, _, _, rfl, rfl, tr, e0, A, _, Tr.flat[i], rfl, l3, wf, up, fun H4 b4 l4 => ?_⟩
        have er2 : Ka.Lay.new.run (Tr.flat.take (i + 1)) = (Ka.Lay.new.run (Tr.flat.take i)).take Tr.flat[i] := by rw [take_snoc si, run_append]; rfl
        refine ⟨_, _, _, rfl, but_same sa b4 fr', by rw [er2]; exact l4, by rw [er2]; exact st2, by rw [er2]; exact j.take _ up⟩
    · rintro σ H' ⟨v2, v3, v4, rfl, s2, l2, st, j⟩
      rw [xl, List.take_length, run_fin] at l2
      have wf := (by rw [xl, List.take_length, run_fin] at j; exact j : J (fin_ Tr) Tr.flat.length).wf hz
      obtain ⟨dx, ho⟩ := l2.o
      have c0 : (fin_ Tr).cur = 0 := cur_after new_ok
      refine ⟨_, rfl, A.o, dx, _, rfl, ho, fl_no A (by decide +kernel), A, _, rfl, l2, wf.ne, rfl, _, rfl, ?_⟩
      rw [c0]
      refine iteF (A := True) ?_
      exact ⟨_, rfl, q A H' s2 fr l2⟩
end
end Kp
end
section
set_option Elab.async false
set_option linter.all false
set_option maxRecDepth 100000
set_option maxHeartbeats 4000000
namespace Kp
open PySem L2

open Ka
theorem small5000 {n : Nat} (h : n ≤ 5000) : n < sizeLine := by
  have : (5001 : Nat) ≤ sizeLine := by decide +kernel
  omega
section
variable {P : Program} {w : World} {K : PySem.W.Frag} {mg : Str → Option Value} {base : Heap}
/-- what lines_of leaves of the rows of a text -/
def cleanR (ws : List Str) : List Str := (ws.map fun z => Txt.lstripChars z (" " : Str)).filter fun z => decide (z ≠ ("" : Str))
def spLinesW : Sp := fun vs H Q _ => ∃ (zs : List Str), vs = [.str (Txt.join ("\n" : Str) zs)] ∧ zs.length ≤ 4010 ∧ (∀ z ∈ zs, 10 ∉ z.cps.toList ∧ z.length ≤ 900) ∧ (Txt.join ("\n" : Str) zs).length ≤ 4000 ∧
  ∀ (t : Addr) (H' : Hp), Same H H' → H t = none → H' t = some (.tup ((cleanR zs).map V.str)) → Q (.ref t) H'
theorem scN_lines : FnScope ["text", "stripped", "line"] ["text"] (defScope s_lines_of) := ⟨rfl, rfl, rfl, by decide +kernel, rfl, by decide +kernel, by decide +kernel⟩
theorem ok_linesW (T : Tx K w mg) : FnOk P w K mg base CX0 1 T.f_lines_of T.d_lines_of ["text"] spLinesW := by
  refine T.lines_of.F.ok scN_lines (fun vs H Q E h => ?_) (fun cdv A outer s H vs Q E hr h => ?_)
  · obtain ⟨zs, rfl, _⟩ := h
    rfl
  · obtain ⟨zs, rfl, hz, hok, hlen, q⟩ := h
    refine ⟨_, (pss_cons (ps_setLc (i := 1) (own := [("line", 2)]) (g := gName 2) (tt := tYes) rfl scN_lines.nd rfl rfl (sw_true rfl rfl rfl (by decide +kernel)) (pi_list (pe_split (pv 0) pe_str)) (blkOk_by (own := [("line", 2)]) (N := ["text", "stripped", "line"]) (sc := defScope s_lines_of) (by decide +kernel)) (fun _ _ _ _ _ => (pg_name (i := 2) scN_lines.nd rfl (.inl rfl))) (fun _ _ _ _ _ => pts_nil) (fun _ _ _ _ _ => (pe_m1 PySem.F.slot_str_lstrip PySem.F.type_str_lstrip mt_lstripChars (pv 2) pe_str)))
        (pss_one (ps_ret (pe_callTy call_tuple_of (by rfl) T.B.tuple (by decide +kernel) (pa_cons (pe_lc (own := [("line", 2)]) (g := gName 2) rfl scN_lines.nd (pi_list (pv 1)) (blkOk_by (own := [("line", 2)]) (N := ["text", "stripped", "line"]) (sc := defScope s_lines_of) (by decide +kernel)) (fun _ _ _ _ _ => (pg_name (i := 2) scN_lines.nd rfl (.inl rfl))) (fun _ _ _ _ _ => pts_one (pt_cmpR op_ne (pv 2) pe_str (nomark _))) (fun _ _ _ _ _ => (pv 2))) pa_nil))))), ?_⟩
    have spl : ∃ ws : List Str, Txt.split (Txt.join ("\n" : Str) zs) ("\n" : Str) = ws ∧ ws.length ≤ 4010 ∧ (∀ z ∈ ws, z.length ≤ 900) ∧ cleanR ws = cleanR zs := by
      by_cases hne : zs = []
      · subst hne
        exact ⟨[""], by decide +kernel, by decide, by intro z hz; rw [List.mem_singleton.mp hz]; decide +kernel, by decide +kernel⟩
      · exact ⟨zs, TL.split_join (y := ("\n" : Str)) (s := 10) (S := []) (by decide +kernel) (by decide +kernel) hne fun p hp => (hok p hp).1, by omega, fun z hz => (hok z hz).2, rfl⟩
    obtain ⟨ws, spl, wl, wok, wf⟩ := spl
    refine ⟨_, rfl, ⟨_, rfl⟩, _, _, rfl, rfl, by decide +kernel, ?_, fun p hp => ?_⟩
    · have : (4002 : Nat) ≤ sizeLine := by decide
      omega
    rw [spl]
    have sp := same_new hp (.lst (ws.map V.str))
    have hp1 : (upd H p (.lst (ws.map V.str))) p = some (.lst (ws.map V.str)) := upd_same
    generalize upd H p (.lst (ws.map V.str)) = H1 at sp hp1 ⊢
    refine ⟨p, rfl, ⟨_, SqL.of hp1⟩, fun D hD => ?_⟩
    have lz : (ws.map V.str).length = ws.length := List.length_map ..
    refine lc_list (xs := ws.map V.str) (fun i H' => Same H1 H' ∧ H' D = some (.lst (((ws.take i).map fun z => Txt.lstripChars z (" " : Str)).map V.str))) ⟨same_new hD _, upd_same⟩ ?_ ?_ ?_
    · rintro i H' _ ⟨s2, _⟩
      exact SqL.of (s2 _ _ hp1)
    · rintro i x H' hx ⟨s2, hD2⟩
      rw [List.getElem?_map] at hx
      obtain ⟨z, hz1, rfl⟩ := Option.map_eq_some_iff.mp hx
      have z2 := wok z (List.mem_of_getElem? hz1)
      refine ⟨rfl, _, rfl, ⟨_, rfl⟩, _, _, rfl, rfl, small30 (by omega), _, hD2, ?_, ?_⟩
      · rw [List.length_map, List.length_map, List.length_take]; exact small5000 (by omega)
      · refine ⟨fun c o hc => ?_, ?_⟩
        · rw [upd_ne (ne_of_none hc hD)]; exact s2 _ _ hc
        · rw [upd_same, take_snoc hz1, List.map_append, List.map_append]; rfl
    · rintro H2 ⟨s2, hD2⟩
      rw [lz, List.take_length] at hD2
      have wl2 : (ws.map fun z => Txt.lstripChars z (" " : Str)).length ≤ 4010 := by rw [List.length_map]; exact wl
      have wf : (ws.map fun z => Txt.lstripChars z (" " : Str)).filter (fun z => decide (z ≠ ("" : Str))) = cleanR zs := wf
      have lz : ((ws.map fun z => Txt.lstripChars z (" " : Str)).map V.str).length = (ws.map fun z => Txt.lstripChars z (" " : Str)).length := List.length_map ..
      clear wl spl wok
      generalize (ws.map fun z => Txt.lstripChars z (" " : Str)) = ws at hD2 wl2 wf lz ⊢
      refine ⟨_, rfl, D, rfl, ⟨_, SqL.of hD2⟩, fun D2 hDn => ?_⟩
      refine lc_list (xs := ws.map V.str) (fun i H' => Same H2 H' ∧ H' D2 = some (.lst (((ws.take i).filter (fun z => decide (z ≠ ("" : Str)))).map V.str))) ⟨same_new hDn _, upd_same⟩ ?_ ?_ ?_
      · rintro i H' _ ⟨s3, _⟩
        exact SqL.of (s3 _ _ hD2)
      · rintro i x H' hx ⟨s3, hD3⟩
        rw [List.getElem?_map] at hx
        obtain ⟨z, hz1, rfl⟩ := Option.map_eq_some_iff.mp hx
        have hil := (List.getElem?_eq_some_iff.mp hz1).1
        refine ⟨rfl, _, rfl, rfl, _, rfl, ?_⟩
        have tk : (ws.take (i + 1)).filter (fun z => decide (z ≠ ("" : Str))) = (ws.take i).filter (fun z => decide (z ≠ ("" : Str))) ++ [z].filter (fun z => decide (z ≠ ("" : Str))) := by rw [take_snoc hz1, List.filter_append]
        by_cases h0 : z = ("" : Str)
        · subst h0
          refine iteF (A := True) ?_
          refine ⟨s3, ?_⟩
          rw [tk, List.filter_cons_of_neg (by simp), List.filter_nil, List.append_nil]; exact hD3
        · have ne : (!decide (V.str z = V.str ("" : Str))) = true := by
            rw [decide_eq_false (fun e => h0 (by injection e))]; rfl
          rw [ne]
          refine iteT (B := True) ?_
          refine ⟨_, rfl, _, hD3, ?_, ?_⟩
          · rw [List.length_map]
            have a := List.length_filter_le (fun z => decide (z ≠ ("" : Str))) (ws.take i)
            have b : (ws.take i).length ≤ i := by rw [List.length_take]; omega
            exact small5000 (by omega)
          · refine ⟨fun c o hc => ?_, ?_⟩
            · rw [upd_ne (ne_of_none hc hDn)]; exact s3 _ _ hc
            · rw [upd_same, tk, List.filter_cons_of_pos (by simpa using h0), List.map_append]; rfl
      · rintro H3 ⟨s3, hD3⟩
        rw [lz, List.take_length, wf] at hD3
        refine ⟨D2, _, rfl, .inl ⟨SqL.of hD3, fun t ht => ?_⟩⟩
        have s123 := (sp.trans s2).trans s3
        exact q t _ (s123.trans (same_new ht _)) (s123.free ht) upd_same
theorem clean_id {zs : List Str} (h : ∀ z ∈ zs, Txt.lstripChars z (" " : Str) = z ∧ z ≠ ("" : Str)) : cleanR zs = zs := by
  unfold cleanR
  have : (zs.map fun z => Txt.lstripChars z (" " : Str)) = zs := by
    rw [List.map_congr_left (g := id) fun z hz => (h z hz).1, List.map_id]
  rw [this]
  exact List.filter_eq_self.mpr fun z hz => decide_eq_true (h z hz).2
end
end Kp
end
section
set_option Elab.async false
set_option linter.all false
set_option maxRecDepth 100000
set_option maxHeartbeats 4000000
namespace Kp
open PySem L2

open Ka
section
variable {P : Program} {w : World} {K : PySem.W.Frag} {mg : Str → Option Value} {base : Heap}
def spLim (K : PySem.W.Frag) : Sp := fun vs H Q _ => ∃ (l d : Addr) (z : Str) (xs : List V) (ds : List Nat), vs = [.ref l, .ref d, .str z] ∧ SqT K H l xs ∧ xs.length ≤ 80 ∧ H d = some (ntL ds) ∧ ds ≠ [] ∧ (∀ x ∈ ds, x ≤ 5) ∧ z.length ≤ 6 ∧ Q .non H
theorem scN_lim : FnScope ["lines", "depths", "variables"] ["lines", "depths", "variables"] (defScope s_check_limits) := ⟨rfl, rfl, rfl, by decide +kernel, rfl, by decide +kernel, by decide +kernel⟩
theorem ok_lim (T : Tx K w mg) : FnOk P w K mg base CX0 1 T.f_check_limits T.d_check_limits ["lines", "depths", "variables"] (spLim K) := by
  refine T.check_limits.F.ok scN_lim (fun vs H Q E h => ?_) (fun cdv A outer s H vs Q E hr h => ?_)
  · obtain ⟨l, d, z, xs, ds, rfl, _⟩ := h
    rfl
  · obtain ⟨l, d, z, xs, ds, rfl, hl, hx, hd, hne, h5, hz, q⟩ := h
    refine ⟨_, (pss_cons (ps_if (pt_cmpR op_gt (pe_callB call_len_seq (by rfl) T.B.len PySem.boot_len (pa_cons (pv 0) pa_nil)) (pe_glob (v := .int 80) rfl T.k_MOST_LINES.choose_spec ⟨_, rfl⟩) (nomark _)) (pss_one ps_never) pss_nil)
        (pss_cons (ps_if (pt_cmpR op_gt (pe_callB (cr_max rfl) (by rfl) T.B.max (by decide +kernel) (pa_cons (pv 1) pa_nil)) (pe_glob (v := .int 5) rfl T.k_MOST_DEPTH.choose_spec ⟨_, rfl⟩) (nomark _)) (pss_one ps_never) pss_nil)
        (pss_one (ps_if (pt_cmpR op_gt (pe_callB call_len_str (by rfl) T.B.len PySem.boot_len (pa_cons (pv 2) pa_nil)) (pe_glob (v := .int 6) rfl T.k_MOST_VARIABLES.choose_spec ⟨_, rfl⟩) (nomark _)) (pss_one ps_never) pss_nil)))), ?_⟩
    refine ⟨_, rfl, l, _, rfl, .inr hl, _, _, rfl, rfl, _, rfl, ?_⟩
    rw [decide_eq_false (by omega)]
    refine iteF (A := True) ?_
    have hd2 : SqL K H d ((ds.map fun n => ((n : Nat) : Int)).map V.int) := by
      have := SqL.of (K := K) hd
      rw [List.map_map]; exact this
    refine ⟨_, rfl, d, _, rfl, hd2, ?_, fun m hm _ => ?_⟩
    · rw [List.length_map]; exact List.length_pos_iff.mpr hne
    obtain ⟨x, hx1, rfl⟩ := List.mem_map.mp hm
    have := h5 x hx1
    refine ⟨_, _, rfl, rfl, _, rfl, ?_⟩
    rw [decide_eq_false (by omega)]
    refine iteF (A := True) ?_
    refine ⟨_, rfl, z, rfl, small30 (by omega), _, _, rfl, rfl, _, rfl, ?_⟩
    rw [decide_eq_false (by omega)]
    refine iteF (A := True) ?_
    exact q
end
end Kp
end
section
set_option Elab.async false
set_option linter.all false
set_option maxRecDepth 100000
namespace Kp
open PySem L2 Ka
/-- L with k -/
def insT (L : List Str) (k : Str) : List Str := if k ∈ L then L else L ++ [k]
/-- L with the texts of a row -/
def growL (L : List Str) (vs : List V) : List Str := vs.foldl (fun L v => match v with
  | .str t => insT L t
  | _ => L) L
theorem growL_snoc (L : List Str) (vs : List V) (v : V) : growL L (vs ++ [v]) = match v with
    | .str t => insT (growL L vs) t
    | _ => growL L vs := by unfold growL; rw [List.foldl_append]; rfl
/-- the names that statements have, in the order in which they come -/
def namesL (ss : List Stm) : List Str := ss.foldl (fun L s => growL L (s.vals.drop 1)) []
theorem namesL_snoc (ss : List Stm) (s : Stm) : namesL (ss ++ [s]) = growL (namesL ss) (s.vals.drop 1) := by unfold namesL; rw [List.foldl_append]; rfl
/-- z: the names of ss, sorted -/
def VarZ (ss : List Stm) (z : Str) : Prop := ∃ ys : List Str, z = Txt.join ("" : Str) ys ∧ (∀ y, y ∈ ys ↔ y ∈ namesL ss) ∧ ys.Nodup ∧ PyProof.Rows.sortedS ys = true
end Kp
end
section
set_option Elab.async false
set_option linter.all false
set_option maxRecDepth 100000
set_option maxHeartbeats 4000000
namespace Kp
open PySem L2

open Ka
def ns13 : List Str := ["lines", "statements", "variables", "line_depths", "parents", "scope_depths", "loops", "point_scopes", "depths", "edges", "followers", "sites", "site_scopes"]
theorem ns13_nd : ns13.Nodup := by decide +kernel
def spStmt (K : PySem.W.Frag) (PT : Addr) : Sp := fun vs H Q _ => ∃ (s : Stm) (lo : Nat), vs = [.str s.txt] ∧ 97 ≤ lo ∧ lo + 6 ≤ 123 ∧ (∀ l, s = .pl l → l.ok lo) ∧ GxR.TabG H PT ∧ ∀ (a : Addr) (H' : Hp), But [PT] H H' → GxR.TabG H' PT → SqT K H' a s.vals → Q (.ref a) H'
def spVars (K : PySem.W.Frag) : Sp := fun vs H Q _ => ∃ (t : Addr) (xs : List V) (ss : List Stm) (lo : Nat), vs = [.ref t] ∧ SqT K H t xs ∧ ToldsAt K H xs ss ∧ ss.length ≤ 80 ∧ 97 ≤ lo ∧ lo + 6 ≤ 123 ∧ (∀ l, Stm.pl l ∈ ss → l.ok lo) ∧ ∀ (z : Str) (H' : Hp), Same H H' → z.length ≤ 6 → VarZ ss z → Q (.str z) H'
/-- line k makes a cell -/
def siteAt (T : Ka.Tree) (k : Nat) : Bool := decide ((T.flat[k]?).map Stm.word = some ("pair" : Str))
def sitesOf (T : Ka.Tree) : List Nat := (List.range T.flat.length).filter (siteAt T)
def arL (T : Ka.Tree) (k : Nat) : List V := (around (fin_ T).parents 6 ((fin_ T).pts.getD k 0)).map fun n => V.int (n : Nat)
/-- Program made of T at x -/
structure ProgAt (K : PySem.W.Frag) (C : Addr) (H : Hp) (x : Addr) (T : Ka.Tree) : Prop where
  a : ∃ (dx a1 a2 a4 a5 a6 a7 a8 a9 a10 a11 a12 a13 : Addr) (z : Str), H x = some (.ins C dx (ns13.zip [.ref a1, .ref a2, .str z, .ref a4, .ref a5, .ref a6, .ref a7, .ref a8, .ref a9, .ref a10, .ref a11, .ref a12, .ref a13])) ∧
    SqT K H a5 ((fin_ T).parents.map opV) ∧ SqT K H a6 ((fin_ T).depths.map fun n => V.int (n : Nat)) ∧
    (∃ ls : List Nat, SqT K H a7 (ls.map fun n => V.int (n : Nat)) ∧ ls = (List.range (fin_ T).kinds.length).filter fun k => decide ((fin_ T).kinds[k]? = some .whl)) ∧
    SqT K H a8 ((fin_ T).pts.map fun n => V.int (n : Nat)) ∧ SqT K H a9 ((fin_ T).pts.map fun s => V.int (((fin_ T).depths.getD s 0 : Nat))) ∧
    (∃ xs, SqT K H a10 xs ∧ TupsAt H xs ((T.pE 0 1).map Edge.vals)) ∧ (∃ ys, SqT K H a11 ys ∧ TupsAt H ys ((List.range (T.len + 1)).map (stopsOf (T.pE 0 1)))) ∧
    SqT K H a1 ((T.flat.map Stm.txt).map V.str) ∧ SqT K H a12 ((sitesOf T).map fun n => V.int (n : Nat)) ∧ (∃ zs, SqT K H a13 zs ∧ TupsAt H zs ((sitesOf T).map (arL T))) ∧
    (∃ us, SqT K H a2 us ∧ ToldsAt K H us T.flat) ∧ SqT K H a4 ((T.ldeps 0).map fun n => V.int (n : Nat)) ∧ VarZ T.flat z
/-- the attributes so far -/
structure PSt (C x dx PT : Addr) (H0 H : Hp) (n : Nat) (vs : List V) : Prop where
  o : H x = some (.ins C dx ((ns13.take n).zip vs))
  l : vs.length = n
  b : But [x, PT] H0 H
  tb : GxR.TabG H PT
theorem PSt.step {C x dx PT : Addr} {H0 H H1 : Hp} {n : Nat} {vs : List V} (h : PSt C x dx PT H0 H n vs) (e : But [PT] H H1) (tb : GxR.TabG H1 PT) : PSt C x dx PT H0 H1 n vs := by
  refine ⟨e x _ h.o ?_, h.l, h.b.trans (e.mono fun b hb => by simp at hb; simp [hb]), tb⟩
  obtain ⟨ps, q, _⟩ := h.tb
  simp only [List.mem_singleton]
  intro z; rw [← z, h.o] at q; cases q
theorem PSt.same {C x dx PT : Addr} {H0 H H1 : Hp} {n : Nat} {vs : List V} (h : PSt C x dx PT H0 H n vs) (e : Same H H1) : PSt C x dx PT H0 H1 n vs := h.step (But.same e _) (by obtain ⟨ps, q, r⟩ := h.tb; exact ⟨ps, e _ _ q, r⟩)
theorem PSt.set {C x dx PT : Addr} {H0 H : Hp} {n : Nat} {vs : List V} {k : Str} {v : V} (h : PSt C x dx PT H0 H n vs) (hk : ns13[n]? = some k) :
    ∃ fs, H x = some (.ins C dx fs) ∧ fs.length < 1000 ∧ PSt C x dx PT H0 (upd H x (.ins C dx (putF k v fs))) (n + 1) (vs ++ [v]) ∧ But [x] H (upd H x (.ins C dx (putF k v fs))) := by
  have hn : n < 13 := (List.getElem?_eq_some_iff.mp hk).1
  have lt : (ns13.take n).length = n := by rw [List.length_take]; show min n 13 = n; omega
  have nk : k ∉ ns13.take n := fun z => by
    obtain ⟨i, hi⟩ := List.mem_iff_getElem?.mp z
    have hil : i < n := by have := (List.getElem?_eq_some_iff.mp hi).1; omega
    rw [List.getElem?_take, if_pos hil] at hi
    have := nd_ix ns13_nd hi hk
    omega
  refine ⟨_, h.o, ?_, ⟨?_, by simp [h.l], h.b.trans (But.upd (by simp) _), ?_⟩, But.upd (by simp) _⟩
  · rw [List.length_zip, lt, h.l]; omega
  · rw [upd_same, putF_zip nk (by rw [lt, h.l]), take_snoc hk]
  · obtain ⟨ps, q, r⟩ := h.tb
    exact ⟨ps, by rw [upd_ne (fun z => by rw [z, h.o] at q; cases q)]; exact q, r⟩
/-- attribute i -/
theorem PSt.get {C x dx PT : Addr} {H0 H : Hp} {n : Nat} {vs : List V} (h : PSt C x dx PT H0 H n vs) (i : Nat) {k : Str} {v : V} (hk : ns13[i]? = some k) (hv : vs[i]? = some v) : ((ns13.take n).zip vs).lookup k = some v := by
  have hi : i < n := by rw [← h.l]; exact (List.getElem?_eq_some_iff.mp hv).1
  exact lookup_zip (ns13_nd.sublist (List.take_sublist _ _)) (by rw [List.getElem?_take, if_pos hi]; exact hk) hv
section
variable {K : PySem.W.Frag} {C x dx PT : Addr} {H0 H H' : Hp} {n : Nat} {vs : List V}
theorem PSt.sq (h : PSt C x dx PT H0 H n vs) (e : But [x, PT] H H') {a : Addr} {xs : List V} (q : SqT K H a xs) : SqT K H' a xs :=
  (e.keepT fun m hm => by
    rcases List.mem_cons.mp hm with z | z
    · rw [z, h.o]; trivial
    · obtain ⟨ps, q, _⟩ := h.tb
      rw [List.mem_singleton.mp z, q]; trivial) _ _ q
theorem PSt.tups (h : PSt C x dx PT H0 H n vs) (e : But [x, PT] H H') {xs : List V} {vss : List (List V)} (q : TupsAt H xs vss) : TupsAt H' xs vss := q.mono fun a us ha => e a _ ha (by
    simp only [List.mem_cons, List.not_mem_nil, or_false, not_or]
    obtain ⟨ps, q, _⟩ := h.tb
    exact ⟨fun z => by (rw [z, h.o] at ha; cases ha), fun z => by (rw [z, q] at ha; cases ha)⟩)
theorem PSt.lay (h : PSt C x dx PT H0 H n vs) (e : But [x, PT] H H') {A : LAd} {L : Ka.Lay} {CL : Addr} (q : LayAt CL H A L) (ne : A.o ≠ x) : LayAt CL H' A L := by
  obtain ⟨ps, pt, _⟩ := h.tb
  obtain ⟨⟨dy, ho⟩, hk, hs, he, hp, hd, ht, hb, hn, nd, bn⟩ := q
  have kp : ∀ a o, H a = some o → (∀ D fs, o ≠ .ins C D fs) → (∀ ps, o ≠ .tbl ps) → H' a = some o := fun a o ha h1 h2 => e a _ ha (by
    simp only [List.mem_cons, List.not_mem_nil, or_false, not_or]
    exact ⟨fun z => by rw [z, h.o] at ha; exact h1 _ _ (Option.some.inj ha).symm, fun z => by rw [z, pt] at ha; exact h2 _ (Option.some.inj ha).symm⟩)
  refine ⟨⟨dy, e _ _ ho ?_⟩, kp _ _ hk ?_ ?_, kp _ _ hs ?_ ?_, kp _ _ he ?_ ?_, kp _ _ hp ?_ ?_, kp _ _ hd ?_ ?_, kp _ _ ht ?_ ?_, kp _ _ hb ?_ ?_, kp _ _ hn ?_ ?_, nd, bn⟩
  · simp only [List.mem_cons, List.not_mem_nil, or_false, not_or]
    exact ⟨ne, fun z => by rw [z, pt] at ho; cases ho⟩
  all_goals (intros; intro z; cases z)
end
end Kp
end
section
set_option Elab.async false
set_option linter.all false
set_option maxRecDepth 100000
set_option maxHeartbeats 4000000
namespace Kp
open PySem L2

open Ka
theorem okT_mem {lo : Nat} : ∀ (T : Ka.Tree), T.okT lo → ∀ l, Stm.pl l ∈ T.flat → l.ok lo := by
  intro T
  induction T with
  | nil => intro _ l h; cases h
  | ln l r ih =>
    intro h l' hl
    rcases List.mem_cons.mp hl with e | hl
    · cases e; exact h.1
    · exact ih h.2 l' hl
  | blk w b r ihb ihr =>
    intro h l hl
    rcases List.mem_cons.mp hl with e | hl
    · cases w <;> cases e
    · rcases List.mem_append.mp hl with hl | hl
      · exact ihb h.1 l hl
      · rcases List.mem_cons.mp hl with e | hl
        · cases e
        · exact ihr h.2 l hl
  | br a b r iha ihb ihr =>
    intro h l hl
    rcases List.mem_cons.mp hl with e | hl
    · cases e
    · rcases List.mem_append.mp hl with hl | hl
      · exact iha h.1 l hl
      · rcases List.mem_cons.mp hl with e | hl
        · cases e
        · rcases List.mem_append.mp hl with hl | hl
          · exact ihb h.2.1 l hl
          · rcases List.mem_cons.mp hl with e | hl
            · cases e
            · exact ihr h.2.2 l hl
theorem pts_val (T : Ka.Tree) : ∀ s n x, x ∈ T.pts s n → x = s ∨ (n ≤ x ∧ x < n + T.nsc) := by
  induction T with
  | nil => intro s n x h; cases h
  | ln l r ih =>
    intro s n x h
    simp only [Tree.pts, Tree.nsc, List.mem_cons] at h ⊢
    rcases h with h | h
    · exact .inl h
    · exact ih _ _ _ h
  | blk w b r ihb ihr =>
    intro s n x h
    simp only [Tree.pts, Tree.nsc, List.mem_cons, List.mem_append] at h ⊢
    rcases h with h | h | h | h
    · right; omega
    · rcases ihb _ _ _ h with q | q <;> (right; omega)
    · exact .inl h
    · rcases ihr _ _ _ h with q | q
      · exact .inl q
      · right; omega
  | br a b r iha ihb ihr =>
    intro s n x h
    simp only [Tree.pts, Tree.nsc, List.mem_cons, List.mem_append] at h ⊢
    rcases h with h | h | h | h | h | h
    · right; omega
    · rcases iha _ _ _ h with q | q <;> (right; omega)
    · right; omega
    · rcases ihb _ _ _ h with q | q <;> (right; omega)
    · exact .inl h
    · rcases ihr _ _ _ h with q | q
      · exact .inl q
      · right; omega
theorem begun_val (T : Ka.Tree) : ∀ k n p, p ∈ T.begun k n → n ≤ p.2 ∧ p.2 < n + T.nsc := by
  induction T with
  | nil => intro k n p h; cases h
  | ln l r ih => intro k n p h; exact ih _ _ _ h
  | blk w b r ihb ihr =>
    intro k n p h
    simp only [Tree.begun, Tree.nsc, List.mem_cons, List.mem_append] at h ⊢
    rcases h with h | h | h
    · subst h; simp only; omega
    · have := ihb _ _ _ h; omega
    · have := ihr _ _ _ h; omega
  | br a b r iha ihb ihr =>
    intro k n p h
    simp only [Tree.begun, Tree.nsc, List.mem_cons, List.mem_append] at h ⊢
    rcases h with h | h | h | h | h
    · subst h; simp only; omega
    · have := iha _ _ _ h; omega
    · subst h; simp only; omega
    · have := ihb _ _ _ h; omega
    · have := ihr _ _ _ h; omega
theorem ended_val (T : Ka.Tree) : ∀ k n p, p ∈ T.ended k n → n ≤ p.2 ∧ p.2 < n + T.nsc := by
  induction T with
  | nil => intro k n p h; cases h
  | ln l r ih => intro k n p h; exact ih _ _ _ h
  | blk w b r ihb ihr =>
    intro k n p h
    simp only [Tree.ended, Tree.nsc, List.mem_cons, List.mem_append] at h ⊢
    rcases h with h | h | h
    · have := ihb _ _ _ h; omega
    · subst h; simp only; omega
    · have := ihr _ _ _ h; omega
  | br a b r iha ihb ihr =>
    intro k n p h
    simp only [Tree.ended, Tree.nsc, List.mem_cons, List.mem_append] at h ⊢
    rcases h with h | h | h | h | h
    · have := iha _ _ _ h; omega
    · subst h; simp only; omega
    · have := ihb _ _ _ h; omega
    · subst h; simp only; omega
    · have := ihr _ _ _ h; omega
theorem lookup_mem : ∀ {l : List (Nat × Nat)} {k n : Nat}, l.lookup k = some n → (k, n) ∈ l
  | (a, b) :: l, k, n, h => by
    rw [List.lookup_cons] at h
    by_cases e : k = a
    · subst e
      simp at h
      subst h; exact List.mem_cons_self ..
    · have ne : (k == a) = false := beq_eq_false_iff_ne.mpr e
      rw [ne] at h
      exact List.mem_cons_of_mem _ (lookup_mem h)
theorem fin_kinds (T : Ka.Tree) : (fin_ T).kinds.length = T.nsc + 1 := by show ([Kd.prog] ++ T.kinds).length = _; simp [kinds_len]
theorem fin_depths (T : Ka.Tree) : (fin_ T).depths.length = T.nsc + 1 := by show ([0] ++ T.deps 1).length = _; simp [deps_len]
theorem fin_pts (T : Ka.Tree) : (fin_ T).pts.length = T.len + 1 := by show ([0] ++ T.pts 0 1).length = _; simp [pts_len]
theorem sm_fin (T : Ka.Tree) (h : T.nsc ≤ 400) : Sm (fin_ T) where
  z := by rw [fin_kinds]; omega
  b := fun k n e => by
    rw [fin_kinds]
    have := begun_val T 0 1 (k, n) (lookup_mem (show ([] ++ T.begun 0 1).lookup k = some n from e))
    simp only at this; omega
  e := fun k n e => by
    rw [fin_kinds]
    have := ended_val T 0 1 (k, n) (lookup_mem (show ([] ++ T.ended 0 1).lookup k = some n from e))
    simp only at this; omega
theorem fin_pt (T : Ka.Tree) {s : Nat} (h : s ∈ (fin_ T).pts) : s < T.nsc + 1 := by
  have h : s ∈ [0] ++ T.pts 0 1 := h
  rcases List.mem_append.mp h with q | q
  · rw [List.mem_singleton.mp q]; omega
  · rcases pts_val T 0 1 s q with e | e <;> omega
/-- each line has a depth -/
theorem ld_all (T : Ka.Tree) {k : Nat} (h : k < T.len) : ∃ v, (∃ n p, (fin_ T).ended.lookup k = some n ∧ (fin_ T).parents[n]? = some (some p) ∧ (fin_ T).depths[p]? = some v) ∨ ((fin_ T).ended.lookup k = none ∧ ∃ s, (fin_ T).pts[k]? = some s ∧ (fin_ T).depths[s]? = some v) := by
  have hC := chain_fin T
  cases e : (fin_ T).ended.lookup k with
  | some n =>
    have hv := ended_val T 0 1 (k, n) (lookup_mem (show ([] ++ T.ended 0 1).lookup k = some n from e))
    simp only at hv
    obtain ⟨p, d, h1, _, h3, _⟩ := hC.up n (by omega) (by rw [hC.len, fin_depths]; omega)
    exact ⟨d, .inl ⟨n, p, rfl, h1, h3⟩⟩
  | none =>
    have hk : k < (fin_ T).pts.length := by rw [fin_pts]; omega
    have hs := fin_pt T (List.getElem_mem hk)
    rw [← fin_depths] at hs
    exact ⟨_, .inr ⟨rfl, _, List.getElem?_eq_getElem hk, List.getElem?_eq_getElem hs⟩⟩
theorem dep5 (T : Ka.Tree) (h : T.high ≤ 5) : ∀ x ∈ (fin_ T).depths, x ≤ 5 := fun x hx => by
  have hx : x ∈ [0] ++ T.deps 1 := hx
  rcases List.mem_append.mp hx with q | q
  · rw [List.mem_singleton.mp q]; omega
  · have := deps_high T 1 x q; omega
/-- what stands in a heap -/
structure FB (K : PySem.W.Frag) (CL : Addr) (H : Hp) (A : LAd) (F : Ka.Lay) (ys : List V) (ss : List Stm) (sq : List (Addr × List V)) (tp : List (List V × List (List V))) : Prop where
  q : ∀ p ∈ sq, SqT K H p.1 p.2
  t : ∀ p ∈ tp, TupsAt H p.1 p.2
  l : LayAt CL H A F
  s : ToldsAt K H ys ss
section
variable {K : PySem.W.Frag} {C CL x dx PT : Addr} {H0 H H' : Hp} {n : Nat} {vs ys : List V} {A : LAd} {F : Ka.Lay} {ss : List Stm} {sq : List (Addr × List V)} {tp : List (List V × List (List V))}
theorem FB.same (B : FB K CL H A F ys ss sq tp) (e : Same H H') : FB K CL H' A F ys ss sq tp :=
  ⟨fun p hp => (Same.keepT e) _ _ (B.q p hp), fun p hp => (B.t p hp).keep e, B.l.mono e, B.s.keep (Same.keepT e)⟩
theorem FB.addq (B : FB K CL H A F ys ss sq tp) {a : Addr} {xs : List V} (h : SqT K H a xs) : FB K CL H A F ys ss ((a, xs) :: sq) tp :=
  ⟨fun p hp => by rcases List.mem_cons.mp hp with e | e; (· rw [e]; exact h); (· exact B.q p e), B.t, B.l, B.s⟩
theorem FB.addt (B : FB K CL H A F ys ss sq tp) {xs : List V} {vss : List (List V)} (h : TupsAt H xs vss) : FB K CL H A F ys ss sq ((xs, vss) :: tp) :=
  ⟨B.q, fun p hp => by rcases List.mem_cons.mp hp with e | e; (· rw [e]; exact h); (· exact B.t p e), B.l, B.s⟩
theorem FB.lift (B : FB K CL H A F ys ss sq tp) (P : PSt C x dx PT H0 H n vs) (ne : A.o ≠ x) (e : But [x, PT] H H') : FB K CL H' A F ys ss sq tp :=
  ⟨fun p hp => P.sq e (B.q p hp), fun p hp => P.tups e (B.t p hp), P.lay e B.l ne, B.s.1, fun i s hs => by obtain ⟨a, h1, h2⟩ := B.s.2 i s hs; exact ⟨a, h1, P.sq e h2⟩⟩
theorem FB.set (B : FB K CL H A F ys ss sq tp) (P : PSt C x dx PT H0 H n vs) (ne : A.o ≠ x) {k : Str} (v : V) (hk : ns13[n]? = some k) :
    ∃ fs, H x = some (.ins C dx fs) ∧ fs.length < 1000 ∧ PSt C x dx PT H0 (upd H x (.ins C dx (putF k v fs))) (n + 1) (vs ++ [v]) ∧ FB K CL (upd H x (.ins C dx (putF k v fs))) A F ys ss sq tp := by
  obtain ⟨fs, h1, h2, h3, b⟩ := P.set (v := v) hk
  exact ⟨fs, h1, h2, h3, B.lift P ne (b.mono fun c h => by simp at h; simp [h])⟩
end
end Kp
end
section
set_option Elab.async false
set_option linter.all false
set_option maxRecDepth 100000
set_option maxHeartbeats 4000000
namespace Kp
open PySem L2

open Ka
/-- the program's test of a variable -/
def isV (z : Str) : Bool := decide ((z.length : Int) = 1) && (!decide (z.cps.toList < ("a" : Str).cps.toList) && !decide (("z" : Str).cps.toList < z.cps.toList))
section
variable {P : Program} {w : World} {K : PySem.W.Frag} {mg : Str → Option Value} {base : Heap}
def spIsv : Sp := fun vs H Q _ => ∃ z : Str, vs = [.str z] ∧ z.length ≤ 900 ∧ Q (.bl (isV z)) H
theorem scN_isv : FnScope ["word"] ["word"] (defScope s_is_variable) := ⟨rfl, rfl, rfl, by decide +kernel, rfl, by decide +kernel, by decide +kernel⟩
theorem ok_isv (T : Tx K w mg) : FnOk P w K mg base CX0 1 T.f_is_variable T.d_is_variable ["word"] spIsv := by
  refine T.is_variable.F.ok scN_isv (fun vs H Q E h => ?_) (fun cdv A outer s H vs Q E hr h => ?_)
  · obtain ⟨z, rfl, _⟩ := h
    rfl
  · obtain ⟨z, rfl, hz, q⟩ := h
    refine ⟨_, (pss_one (ps_ret (pe_and (pe_cmpR op_eq (pe_callB call_len_str (by rfl) T.B.len PySem.boot_len (pa_cons (pv 0) pa_nil)) pe_int (nomark _)) (pe_one (pe_chain op_le_str op_le_str pe_str (pv 0) pe_str))))), ?_⟩
    refine ⟨_, rfl, z, rfl, small30 (by omega), rfl, _, rfl, ?_⟩
    unfold isV at q
    have e1 : decide (V.int (z.length : Nat) = V.int 1) = decide ((z.length : Int) = 1) := by
      by_cases h : (z.length : Int) = 1
      · rw [decide_eq_true h, h]; simp
      · rw [decide_eq_false h, decide_eq_false (fun e => h (by injection e))]
    rw [e1]
    cases c1 : decide ((z.length : Int) = 1) with
    | false =>
      rw [c1] at q
      exact iteF (A := True) q
    | true =>
      rw [c1] at q
      refine iteT (B := True) ?_
      refine ⟨_, rfl, _, _, rfl, rfl, _, rfl, ?_⟩
      cases c2 : (!decide (z.cps.toList < ("a" : Str).cps.toList)) with
      | false =>
        rw [c2] at q
        exact iteF (A := True) q
      | true =>
        rw [c2] at q
        exact iteT (B := True) ⟨_, _, rfl, rfl, q⟩
end
end Kp
end
section
set_option Elab.async false
set_option linter.all false
set_option maxRecDepth 100000
set_option maxHeartbeats 4000000
namespace Kp
open PySem PySem.Spec PyProof.Rows L2 GxR
section
variable {X : Cx} {pins : List (Addr × Obj)} {σ : L2.St} {H : Hp} {s : Shared}
/-- `sign in NAME`, NAME a text of the module -/
theorem sign_in {pr : Program} {wo : World} {scope : Scope} {x g z : Str} {tz : Tok} {mg : Str → Option Value} {p1 p2 p3 : Pos} {env : Env} {A : Around} {E : Value → Shared → Prop} {c : Nat} {t : Tok} {st : Shared} {m : Str → Option Value}
    (hk : scope.kind = .function) (hl : scope.names.lookup x = some .local) (hg : scope.names.lookup g = some .globalImplicit) (hm : mg g = some (.str z tz)) (he : env.scope = scope) (hn : st.heap.Ns env.locals m) (hx : m x = some (.str ⟨#[c]⟩ t)) (hG : st.heap.Ns env.globals mg)
    (dx : (x == ("__debug__" : Str)) = false) (dg : (g == ("__debug__" : Str)) = false) :
    wpAny (model pr wo) A (eval (.Compare (.Name x p1) [.In] [.Name g p2] p3) env) (fun y s' => y = .bool (decide (c ∈ z.cps.toList)) ∧ Keeps st s') E st := by
  have kf : env.scope.kind = .function := by rw [he]; exact hk
  refine wpAny_Compare1 ?_
  refine wpAny_Name (wpAny_loadName_local kf (show env.scope.names.lookup x = some .local by rw [he]; exact hl) hn hx ?_) dx
  refine Calls.Name_function_global kf (show env.scope.names.lookup g = some .globalImplicit by rw [he]; exact hg) (Calls.loadGlobal_global hG hm ?_) dg
  refine PyProof.Rows.in_str ⟨congrArg Value.bool (PySem.StrLaws.found_one z c), keeps_refl _⟩
theorem gen_in {c P : Addr} {iter : Expr} {x g z : Str} {tz : Tok} {px p1 p2 p3 gpos : Pos} {scope : Scope} {te : TE} {k : Nat} {Qv : Value → Shared → Prop} {R : Str → Hp → Prop}
    (room : Room k X.A) (TB : TabB X.base X.mg c P) (code : X.env.code = .ref c) (S : GenS X.env scope x) (hi : PE X iter te) (hg : scope.names.lookup g = some .globalImplicit) (hm : X.mg g = some (.str z tz))
    (dx : (x == ("__debug__" : Str)) = false) (dg : (g == ("__debug__" : Str)) = false)
    (plain : ∀ v, genFold iter X.env v = pure v) (I : Inv X pins σ H s) (h : te σ H fun v H1 => ∃ a : Str, v = .str a ∧ TabG H1 P ∧ R a H1)
    (go : ∀ a H1 gen s', R a H1 → Ready X pins σ H1 P a (fun d => decide (d ∈ z.cps.toList)) gen s' → Qv (.ref gen) s') :
    wpAny (model X.prog X.w) X.A (eval (.GeneratorExp (.Compare (.Name x p1) [.In] [.Name g p2] p3) [⟨.Name x px, iter, [], 0⟩] scope gpos) X.env) Qv X.xe s := by
  have deep := room.dp
  refine wpAny_GeneratorExp_walksQ room.hd S.co (closure_ok S.free) S.cell S.dot S.loc S.kind (by omega) (thn (hi.run pins s σ H _ I h) fun xv sA ⟨v, HA, IA, rA, qA⟩ => ?_) plain
  obtain ⟨a, ev, ⟨old, tabA, trip⟩, qA⟩ := qA
  subst ev
  obtain ⟨ta, ea⟩ := rA
  subst ea
  refine wpAny_pyIter_str fun ob St walk start => ?_
  -- the table ahead of the new things
  have tab0 : sA.heap.get? P = some { cls := .none, data := .fields old } := IA.hok P _ tabA
  have ltP : P < sA.heap.objs.size := Heap.lt_size tab0
  have tab1 : (sA.heap.push ob).get? P = some { cls := .none, data := .fields old } := Heap.get?_push_of_some _ tab0
  have hdr : PySem.W.CodeHd (sA.heap.push ob) c P := TB.code.keeps fun b u e => Heap.get?_push_of_some _ (IA.bk b u e)
  have lim : (sA.heap.push ob).NoLimit := IA.nolimit.push ob
  have size1 : (sA.heap.push ob).objs.size = sA.heap.objs.size + 1 := Heap.size_push ..
  obtain ⟨_, statics, _⟩ := _root_.id IA.nolimit
  have ltC : cStatics < sA.heap.objs.size := statics.lt
  have neC : cStatics ≠ P := fun e => by
    obtain ⟨o', es, ep, ho, hd, _⟩ := statics
    rw [e, tab0] at ho
    cases ho
    cases hd
  -- behind the generator's code
  have rest : ∀ (cv : Value) (hB : Heap) (tB : Nat) (now : Array Value), Heap.ExtBut P (sA.heap.push ob) hB → (sA.heap.push ob).objs.size ≤ hB.objs.size → hB.get? P = some { cls := .none, data := .fields now } → (∃ more, now = old ++ more) → TriplesOk now.toList →
      wpAny (model X.prog X.w) X.A (builtinsFor X.env.globals X.env.builtins) (fun bi sB =>
        ∃ it fp wr n Pf St0 pz F, Value.ref sA.heap.objs.size = .ref it ∧ (∀ A' : Around, A'.handled = none → Walks X.prog X.w A' it fp wr n Pf St0) ∧ St0 0 sB.heap ∧ (∀ b ∈ fp, b < sB.heap.objs.size) ∧ sB.heap.NoLimit ∧ cStatics ∉ wr ∧
          (∀ href : Heap, (∀ b o, sB.heap.get? b = some o → href.get? b = some o) →
            QuietGen X.prog X.w (genEnv scope (cloFrom X.env.cells scope.names []) sB.heap.objs.size cv bi X.env) x [] (.Compare (.Name x p1) [.In] [.Name g p2] p3) (List.range sB.heap.objs.size) wr Pf pz F href) ∧
          (∀ gen hC tC gs, gs.bare = true → sB.heap.objs.size < gen → hC.objs.size = gen + 1 → (∀ b o, sB.heap.get? b = some o → hC.get? b = some o) →
            WalksS X.prog X.w X.A.in4 gen (gen :: sB.heap.objs.size :: List.range sB.heap.objs.size) (sB.heap.objs.size :: wr) (GenOnlyQ sB.gens.size) (passing pz n 0).length
              (fun j y => ∃ i, (passing pz n 0)[j]? = some i ∧ F i y) (GenAt X.prog X.w X.A.in4 gen sB.gens.size sB.heap.objs.size (List.range sB.heap.objs.size) wr pz n F) →
            GenAt X.prog X.w X.A.in4 gen sB.gens.size sB.heap.objs.size (List.range sB.heap.objs.size) wr pz n F 0 { sB with gens := sB.gens.push gs, toks := tC, heap := hC } →
            Qv (.ref gen) { sB with gens := sB.gens.push gs, toks := tC, heap := hC })) X.xe { sA with heap := hB, toks := tB } := by
    intro cv hB tB now ext big tabB grown trip'
    obtain ⟨bm, bo, m1, m2, m3, m4, m5, m6, m7, m8⟩ := TB.bm
    have kB : ∀ b u, b ≠ P → sA.heap.get? b = some u → hB.get? b = some u := fun b u hb e => ext b u hb (Heap.get?_push_of_some _ e)
    have globB : hB.Ns X.env.globals X.mg := by rw [IA.ok.glob]; exact ((IA.mod.glob.keeps IA.bk).push ob).extBut ext TB.gP
    refine wpAny_builtinsFor (m := X.mg) globB m1 m2 (kB _ _ m4 (IA.bk _ _ m5)) m6 m7 m8 ?_
    refine ⟨sA.heap.objs.size, [sA.heap.objs.size], [sA.heap.objs.size], a.cps.size, SignAt a, St, (fun _ => true), (fun i y => ∃ d, a.cps[i]? = some d ∧ y = .bool (decide (d ∈ z.cps.toList))), rfl, walk, ?_, fun b hb => ?_, lim.extBut ext neC, ?_, fun href up => ⟨?_, ?_⟩, ?_⟩
    · refine (walk X.A room.hd).frame _ _ _ start fun b hb u e => ext b u (fun w => ?_) e
      have eb : b = sA.heap.objs.size := by simpa using hb
      exact Nat.ne_of_lt ltP (w.symm.trans eb)
    · have eb : b = sA.heap.objs.size := by simpa using hb
      rw [eb]
      show sA.heap.objs.size < hB.objs.size
      omega
    · simp only [List.mem_singleton]
      exact Nat.ne_of_lt ltC
    · intro A' E' i v s2 m hA hP hn hv hk
      simp only [List.forIn_nil]
      exact wpAny_pure ⟨rfl, keeps_refl _⟩
    · intro A' E' i v s2 m hA hP hp hn hv hk
      obtain ⟨d, u, hd, ev⟩ := hP
      subst ev
      have globH : href.Ns X.env.globals X.mg := by
        obtain ⟨o, es, ep, ho, r⟩ := globB
        exact ⟨o, es, ep, up _ _ ho, r⟩
      have ltG : X.env.globals < hB.objs.size := by obtain ⟨o, _, _, ho, _⟩ := globB; exact Heap.lt_size ho
      have ltG0 : X.env.globals < sA.heap.objs.size := by
        rw [IA.ok.glob]
        obtain ⟨o, _, _, ho, _⟩ := IA.mod.glob.keeps IA.bk
        exact Heap.lt_size ho
      have globS : s2.heap.Ns X.env.globals X.mg := by
        obtain ⟨o, es, ep, ho, r⟩ := globH
        exact ⟨o, es, ep, hk _ (List.mem_range.mpr ltG) (by simp only [List.mem_singleton]; exact Nat.ne_of_lt ltG0) _ ho, r⟩
      exact wpAny_mono (sign_in S.kind S.loc hg hm rfl hn hv globS dx dg) (fun y s3 r => ⟨⟨d, hd, r.1⟩, r.2⟩) fun _ _ e => e
    · intro gen hC tC gs bare above sizeC kC walkC atC
      simp only [GxR.passing_true, List.length_range] at walkC
      refine go a HA gen _ qA ⟨_, _, _, _, _, walkC.in4_1, atC, ?_, fun s' moved => ?_⟩
      · intro j y sj Qj Ej hy hQj
        obtain ⟨i, ij, d, hd, ey⟩ := hy
        subst ey
        obtain ⟨hj, ej⟩ := List.getElem?_eq_some_iff.mp ij
        rw [List.getElem_range] at ej
        subst ej
        have at_j : a.cps.toList[j]? = some d := by rw [Array.getElem?_toList]; exact hd
        have hQj : Qj (trF (fun d => decide (d ∈ z.cps.toList)) a.cps.toList j) sj := hQj
        rw [trF_some at_j] at hQj
        exact wpAny_truthy_bool hQj
      · obtain ⟨more, em⟩ := grown
        have out : ∀ b u, sA.heap.get? b = some u → b ∉ hB.objs.size :: [sA.heap.objs.size] := fun b u e => by
          have lt := Heap.lt_size e
          simp only [List.mem_cons, List.not_mem_nil, or_false, not_or]
          refine ⟨fun w => ?_, Nat.ne_of_lt lt⟩
          have low : hB.objs.size < sA.heap.objs.size := by
            have w : b = hB.objs.size := w
            rw [← w]; exact lt
          omega
        have J := inv_tab (more := more) (h' := s'.heap) (g' := s'.gens) (d' := s'.drawn) (t' := s'.toks) IA tabA (fun b u hb e => moved.heap b u (out b u e) (kC b u (kB b u hb e)))
          (by rw [← em]; exact moved.heap P _ (out P _ tab0) (kC P _ tabB)) (AllBare.movedS (IA.bare.push bare) moved)
        rw [sh_eta sA s' moved.os] at J
        exact ⟨upd HA P (.tbl (old ++ more)), ⟨⟨old ++ more, upd_same, by rw [← em]; exact trip'⟩, fun b hb => upd_ne hb⟩, J⟩
  refine ⟨lim, ?_⟩
  cases known : codeAmong gpos old.toList with
  | none =>
    refine wpAny_genexprCodeX code (hdr.code tab1 trip) (hdr.tab tab1) known fun cNew hB tB ext ge lt made _ grown _ => ?_
    obtain ⟨_, _, _, _, _, _, _, _, _, _, _, _, _, _, _, _, _, _, _, trip', _⟩ := made
    exact rest _ hB tB _ ext (Nat.le_trans ge (Nat.le_of_lt lt)) grown.2 ⟨_, rfl⟩ trip'
  | some cv =>
    refine wpAny_genexprCode_hit code (hdr.code tab1 trip) known ?_
    exact rest cv (sA.heap.push ob) sA.toks old (Heap.ExtBut.refl _ _) (Nat.le_refl _) tab1 ⟨#[], by simp⟩ trip
end
section
variable {X : Cx}
theorem pe_all_in {c P : Addr} {iter : Expr} {x g z : Str} {tz : Tok} {px p p1 p2 p3 pos gpos : Pos} {scope : Scope} {te : TE} {k : Nat}
    (room : Room k X.A) (hga : Gl X "all") (hma : X.mg "all" = none) (TB : TabB X.base X.mg c P) (code : X.env.code = .ref c) (S : GenS X.env scope x) (hi : PE X iter te) (hg : scope.names.lookup g = some .globalImplicit) (hm : X.mg g = some (.str z tz))
    (plain : ∀ v, genFold iter X.env v = pure v)
    (dx : (x == ("__debug__" : Str)) = false := by decide) (dg : (g == ("__debug__" : Str)) = false := by decide)
    (each : starEach [.GeneratorExp (.Compare (.Name x p1) [.In] [.Name g p2] p3) [⟨.Name x px, iter, [], 0⟩] scope gpos] X.env = (false, eval (.GeneratorExp (.Compare (.Name x p1) [.In] [.Name g p2] p3) [⟨.Name x px, iter, [], 0⟩] scope gpos) X.env) :: starEach [] X.env := by rfl) :
    PE X (.Call (.Name "all" p) [.GeneratorExp (.Compare (.Name x p1) [.In] [.Name g p2] p3) [⟨.Name x px, iter, [], 0⟩] scope gpos] [] pos) (tAllS P (fun d => decide (d ∈ z.cps.toList)) te) := by
  refine ⟨fun pins s σ H Q I h => ?_⟩
  refine wpAny_Call_Name_kw (ld_blt I hga hma (by decide +kernel : bootBuiltins "all" = some (.builtin "all")) (PyProof.Rows.callWith_builtin1 ?_ each (by rfl)))
  rw [each]
  show wpAny _ _ (spliced ((false, eval _ X.env) :: backTo pos (starEach [] X.env))) _ _ s
  refine Calls.spliced_cons (gen_in (R := fun a H1 => ∀ H2, Tabbed P H1 H2 → Q (.bl (a.cps.toList.all fun d => decide (d ∈ z.cps.toList))) H2) room TB code S hi hg hm dx dg plain I h fun a H1 gen sG hR hG => ?_)
  obtain ⟨fp, wr, G, F, St, walk, start, truth, back⟩ := hG
  refine Calls.spliced_nil (call_all_walkS (walk.self 0 _ _ _ start ⟨gen, fp, wr, G, _, F, St, _, rfl, walk, start, truth, fun s' moved => ?_⟩))
  obtain ⟨H2, hT, J⟩ := back s' moved
  refine ⟨.bl _, H2, J, rfl, ?_⟩
  rw [all_signs a]
  exact hR H2 hT
end
end Kp
end
section
set_option Elab.async false
set_option linter.all false
set_option maxRecDepth 100000
set_option maxHeartbeats 4000000
namespace Kp
open PySem L2

open Ka
def headS (z : Str) : Str := ⟨#[z.cps.toList.headD 0]⟩
/-- the program's test of a number -/
def isN (z : Str) : Bool := if decide (1 ≤ (z.length : Int)) && decide ((z.length : Int) ≤ 3) then (if decide (headS z = ("0" : Str)) && !decide (z = ("0" : Str)) then false else z.cps.toList.all fun d => decide (d ∈ ("0123456789" : Str).cps.toList)) else false
section
variable {P : Program} {w : World} {K : PySem.W.Frag} {mg : Str → Option Value} {base : Heap}
def spIsn (PT : Addr) : Sp := fun vs H Q _ => ∃ z : Str, vs = [.str z] ∧ z.length ≤ 900 ∧ GxR.TabG H PT ∧ ∀ H', But [PT] H H' → GxR.TabG H' PT → Q (.bl (isN z)) H'
theorem scN_isn : FnScope ["word"] ["word"] (defScope s_is_number) := ⟨rfl, rfl, rfl, by decide +kernel, rfl, by decide +kernel, by decide +kernel⟩
theorem ok_isn {c PT : Addr} (T : Tx K w mg) (TB : GxR.TabB base mg c PT) (hcd : T.d_is_number.code = .ref c) : FnOk P w K mg base CX0 1 T.f_is_number T.d_is_number ["word"] (spIsn PT) := by
  obtain ⟨oc, od, kV, doc, pm, an, cdv, ct, osl, efd, lk, hc⟩ := T.is_number.F.ex
  have ecd : cdv = .ref c := by rw [← hcd, efd]
  subst ecd
  rw [efd] at lk ⊢
  refine fn_of lk hc scN_isn (fun vs H Q E h => ?_) fun A outer s H vs Q E hr h => ?_
  · obtain ⟨z, rfl, _⟩ := h
    rfl
  · obtain ⟨z, rfl, hz, tab, q⟩ := h
    have S0 : ∀ {env : Env}, GxR.GenS env { kind := .function, names := [(".0", .local), ("sign", .local), ("DIGITS", .globalImplicit)], isGenerator := true, isCoroutine := false, more := [] } ("sign" : Str) := fun {env} => ⟨rfl, rfl, by decide +kernel, by decide +kernel, by decide +kernel, fun y hy e => by
      have : ∀ y ∈ ([(".0", .local), ("sign", .local), ("DIGITS", .globalImplicit)] : List (Str × NameKind)), y.2 ≠ .free := by decide +kernel
      exact absurd e (this y hy)⟩
    refine ⟨_, PSs.nox (pss_cons (ps_if (pt_not (pt_chain op_le op_le pe_int (pe_callB call_len_str (by rfl) T.B.len PySem.boot_len (pa_cons (pv 0) pa_nil)) (pe_glob (v := .int 3) rfl T.k_MOST_DIGITS.choose_spec ⟨_, rfl⟩))) (pss_one (ps_ret pe_bl)) pss_nil)
        (pss_cons (ps_if (PW.pt (pw_and (pt_cmpR op_eq (pe_ix ix_str (pv 0) pe_int (fun _ _ => rfl)) pe_str (nomark _)) (pw_and1 (pt_cmpR op_ne (pv 0) pe_str (nomark _))))) (pss_one (ps_ret pe_bl)) pss_nil)
        (pss_one (ps_ret (pe_all_in hr (by rfl) T.B.all TB rfl S0 (pv 0) rfl T.k_DIGITS.choose_spec (fun _ => rfl)))))), ?_⟩
    have q0 := q H (But.refl _ _) tab
    refine ⟨_, rfl, z, rfl, small30 (by omega), _, _, rfl, rfl, _, rfl, ?_⟩
    unfold isN at q q0
    cases c1 : decide (1 ≤ (z.length : Int)) with
    | false =>
      rw [c1] at q0
      exact iteF (A := True) ⟨_, rfl, iteT (B := True) q0⟩
    | true =>
      refine iteT (B := True) ?_
      refine ⟨_, _, rfl, rfl, _, rfl, ?_⟩
      cases c2 : decide ((z.length : Int) ≤ 3) with
      | false =>
        rw [c1, c2] at q0
        exact iteT (B := True) q0
      | true =>
        refine iteF (A := True) ?_
        rw [c1, c2] at q q0
        have ne : z.cps.toList ≠ [] := fun e => by
          have l0 : z.length = z.cps.toList.length := by simp [Str.length]
          have l1 := of_decide_eq_true c1
          rw [l0, e] at l1; simp at l1
        obtain ⟨d, r, er⟩ := List.exists_cons_of_ne_nil ne
        have eh : headS z = ⟨#[d]⟩ := by unfold headS; rw [er]; rfl
        refine ⟨_, rfl, z, 0, d, rfl, rfl, small30 (by omega), by rw [er]; exact atI_nat (j := 0) rfl, rfl, _, rfl, ?_⟩
        have e1 : decide (V.str ⟨#[d]⟩ = V.str ("0" : Str)) = decide (headS z = ("0" : Str)) := by rw [eh]; exact decide_eq_decide.mpr ⟨fun e => by injection e, fun e => by rw [e]⟩
        rw [e1]
        have fin : (if (decide (headS z = ("0" : Str)) && !decide (z = ("0" : Str))) = true then False else True) → tRet (GxR.tAllS PT (fun d => decide (d ∈ ("0123456789" : Str).cps.toList)) (tVar 0)) { nx := fun _ H' => Q .non H', rt := Q } (L2.start ["word"] [V.str z]) H := fun hh => by
          refine ⟨_, rfl, z, rfl, tab, fun H2 ht => ?_⟩
          have b : But [PT] H H2 := fun b o hb hn => by rw [ht.2 b (by simpa using hn)]; exact hb
          have q2 := q H2 b ht.1
          cases c3 : (decide (headS z = ("0" : Str)) && !decide (z = ("0" : Str))) with
          | true => rw [c3] at hh; exact absurd hh (by simp)
          | false => rw [c3] at q2; exact q2
        cases c3 : decide (headS z = ("0" : Str)) with
        | false =>
          rw [c3] at fin
          exact iteF (A := True) (iteF (A := True) (fin trivial))
        | true =>
          refine iteT (B := True) ?_
          refine ⟨_, rfl, rfl, _, rfl, ?_⟩
          have e2 : (!decide (V.str z = V.str ("0" : Str))) = (!decide (z = ("0" : Str))) := by
            congr 1
            exact decide_eq_decide.mpr ⟨fun e => by injection e, fun e => by rw [e]⟩
          rw [e2]
          cases c4 : (!decide (z = ("0" : Str))) with
          | true =>
            rw [c3, c4] at q0
            exact iteT (B := True) q0
          | false =>
            rw [c3, c4] at fin
            exact iteF (A := True) (fin trivial)
end
end Kp
end
section
set_option Elab.async false
set_option linter.all false
set_option maxRecDepth 100000
set_option maxHeartbeats 4000000
namespace Kp
open PySem L2

open Ka
/-- what is given -/
def lval : Ln → Str
  | .num _ n => num_ n
  | .copy _ y => ch y
  | .pair _ y z => ((("[" : Str) ++ ch y) ++ (", " : Str)) ++ ch z ++ ("]" : Str)
  | .hd _ y => (ch y ++ ("." : Str)) ++ ("head" : Str)
  | .tl _ y => (ch y ++ ("." : Str)) ++ ("tail" : Str)
  | .prt x => ch x
theorem f1 : ∀ i : Fin 26, isV (ch (97 + i.val)) = true := by decide +kernel
theorem f2 : ∀ n : Fin 1000, isV (num_ n.val) = false ∧ isN (num_ n.val) = true ∧ PySem.intText? (num_ n.val) = some (n.val : Int) := by decide +kernel
theorem f3 : ∀ i : Fin 26, (fun v : Str => isV v = false ∧ isN v = false ∧ cutS v none (some 1) = ch (97 + i.val) ∧ cutS v (some 1) none = (".head" : Str) ∧ cutS v (some 2) none = ("head" : Str) ∧ v.cps.toList[0]? = some (97 + i.val) ∧ v.length = 6) ((ch (97 + i.val) ++ ("." : Str)) ++ ("head" : Str)) := by decide +kernel
theorem f4 : ∀ i : Fin 26, (fun v : Str => isV v = false ∧ isN v = false ∧ cutS v none (some 1) = ch (97 + i.val) ∧ cutS v (some 1) none = (".tail" : Str) ∧ cutS v (some 2) none = ("tail" : Str) ∧ v.cps.toList[0]? = some (97 + i.val) ∧ v.length = 6) ((ch (97 + i.val) ++ ("." : Str)) ++ ("tail" : Str)) := by decide +kernel
theorem f5 : ∀ i j : Fin 26, (fun v : Str => isV v = false ∧ isN v = false ∧ isV (cutS v none (some 1)) = false ∧ (cutS v none (some 1)).length = 1 ∧ cutS v (some 1) (some 2) = ch (97 + i.val) ∧ cutS v (some 4) (some 5) = ch (97 + j.val) ∧ v.length = 6 ∧ ((((Str.empty ++ ("[" : Str)) ++ ch (97 + i.val)) ++ (", " : Str)) ++ ch (97 + j.val)) ++ ("]" : Str) = v)
    (((("[" : Str) ++ ch (97 + i.val)) ++ (", " : Str)) ++ ch (97 + j.val) ++ ("]" : Str)) := by decide +kernel
theorem fin26 {y : Nat} (h1 : 97 ≤ y) (h2 : y < 123) : ∃ i : Fin 26, y = 97 + i.val := ⟨⟨y - 97, by omega⟩, by simp only; omega⟩
end Kp
end
section
set_option Elab.async false
set_option linter.all false
set_option maxRecDepth 100000
set_option maxHeartbeats 4000000
namespace Kp
open PySem L2

open Ka
section
variable {P : Program} {w : World} {K : PySem.W.Frag} {mg : Str → Option Value} {base : Heap}
def spAsg (K : PySem.W.Frag) (PT : Addr) : Sp := fun vs H Q _ => ∃ (x : Nat) (l : Ln) (lo : Nat), vs = [.str (ch x), .str (lval l)] ∧ 97 ≤ lo ∧ lo + 6 ≤ 123 ∧ l.ok lo ∧ (∀ x, l ≠ .prt x) ∧ toldV l = .str (Stm.word (.pl l)) :: .str (ch x) :: (toldV l).drop 2 ∧ GxR.TabG H PT ∧
  ∀ (a : Addr) (H' : Hp), But [PT] H H' → GxR.TabG H' PT → SqT K H' a (toldV l) → Q (.ref a) H'
theorem scN_asg : FnScope ["name", "value", "first", "second"] ["name", "value"] (defScope s_assignment_of) := ⟨rfl, rfl, rfl, by decide +kernel, rfl, by decide +kernel, by decide +kernel⟩
theorem ok_asg {c PT : Addr} (T : Tx K w mg) (TB : GxR.TabB base mg c PT) (hcd : T.d_is_number.code = .ref c) : FnOk P w K mg base CX0 2 T.f_assignment_of T.d_assignment_of ["name", "value"] (spAsg K PT) := by
  have G_is_variable := ok_isv (P := P) (base := base) T
  have G_is_number := ok_isn (P := P) (base := base) T TB hcd
  refine T.assignment_of.F.ok scN_asg (fun vs H Q E h => ?_) (fun cdv A outer s H vs Q E hr h => ?_)
  · obtain ⟨x, l, lo, rfl, _⟩ := h
    rfl
  · obtain ⟨x, l, lo, rfl, lo1, lo2, ok, np, tv, tab, q⟩ := h
    refine ⟨_, (pss_cons (ps_if (pt_val (pe_call G_is_variable hr (by rfl) T.is_variable.g T.is_variable.F.kp T.is_variable.b .nil pass0 (pa_cons (pv 1) pa_nil))) (pss_one (ps_ret (pe_tup (pa_cons pe_str (pa_cons (pv 0) (pa_cons (pv 1) pa_nil)))))) pss_nil)
        (pss_cons (ps_if (pt_val (pe_call G_is_number hr (by rfl) T.is_number.g T.is_number.F.kp T.is_number.b .nil pass0 (pa_cons (pv 1) pa_nil))) (pss_one (ps_ret (pe_tup (pa_cons pe_str (pa_cons (pv 0) (pa_cons (pe_callTy call_int_str (by rfl) T.B.int (by decide +kernel) (pa_cons (pv 1) pa_nil)) pa_nil)))))) pss_nil)
        (pss_cons (ps_if (PW.pt (pw_and (pt_val (pe_call G_is_variable hr (by rfl) T.is_variable.g T.is_variable.F.kp T.is_variable.b .nil pass0 (pa_cons (pe_slice sl_str (pv 1) po_none (po_some pe_int)) pa_nil))) (pw_and1 (pt_cmpR op_in_seq (pe_slice sl_str (pv 1) (po_some pe_int) po_none) (pe_tup (pa_cons pe_str (pa_cons pe_str pa_nil))) (by rfl))))) (pss_one (ps_ret (pe_tup (pa_cons (pe_slice sl_str (pv 1) (po_some pe_int) po_none) (pa_cons (pv 0) (pa_cons (pe_ix ix_str (pv 1) pe_int (fun _ _ => rfl)) pa_nil)))))) pss_nil)
        (pss_cons (ps_set (i := 2) scN_asg.nd rfl (.inl rfl) (pe_slice sl_str (pv 1) (po_some pe_int) (po_some pe_int)))
        (pss_cons (ps_set (i := 3) scN_asg.nd rfl (.inl rfl) (pe_slice sl_str (pv 1) (po_some pe_int) (po_some pe_int)))
        (pss_cons (ps_if (PW.pt (pw_and (pt_val (pe_call G_is_variable hr (by rfl) T.is_variable.g T.is_variable.F.kp T.is_variable.b .nil pass0 (pa_cons (pv 2) pa_nil))) (pw_and (pt_val (pe_call G_is_variable hr (by rfl) T.is_variable.g T.is_variable.F.kp T.is_variable.b .nil pass0 (pa_cons (pv 3) pa_nil))) (pw_and1 (pt_cmpR op_eq (pv 1) (pe_joined (.cons pe_str (.cons (pe_fmt (pv 2)) (.cons pe_str (.cons (pe_fmt (pv 3)) (.cons pe_str .nil)))))) (nomark _)))))) (pss_one (ps_ret (pe_tup (pa_cons pe_str (pa_cons (pv 0) (pa_cons (pv 2) (pa_cons (pv 3) pa_nil))))))) pss_nil)
        (pss_one (ps_ret pe_non)))))))), ?_⟩
    have new : ∀ {H' : Hp} {p : Addr} {o : List V}, H' p = none → GxR.TabG H' PT → But [PT] H' (upd H' p (.tup o)) ∧ GxR.TabG (upd H' p (.tup o)) PT := fun {H' p o} hp ht => by
      obtain ⟨ps, e, r⟩ := ht
      exact ⟨But.same (same_new hp _) _, ps, same_new hp _ _ _ e, r⟩
    cases l with
    | prt y => exact absurd rfl (np y)
    | copy x0 y =>
      obtain ⟨_, hy1, hy2⟩ := ok
      obtain ⟨i, rfl⟩ := fin26 (y := y) (by omega) (by omega)
      refine ⟨_, rfl, _, rfl, by show (ch _).length ≤ 900; rw [len_ch]; decide, ?_⟩
      show ∃ d, V.bl (isV (ch (97 + i.val))) = .bl d ∧ _
      rw [f1 i]
      refine ⟨_, rfl, iteT (B := True) ?_⟩
      refine ⟨_, rfl, _, rfl, by show 3 ≤ sizeLine; decide, fun p hp => ?_⟩
      obtain ⟨b, t2⟩ := new hp tab
      refine q p _ b t2 ?_
      rw [tv]; exact SqT.of upd_same
    | num x0 n =>
      obtain ⟨_, hn⟩ := ok
      obtain ⟨g1, g2, g3⟩ := f2 ⟨n, hn⟩
      have nl := num_len n hn
      refine ⟨_, rfl, _, rfl, by show (num_ n).length ≤ 900; omega, ?_⟩
      show ∃ d, V.bl (isV (num_ n)) = .bl d ∧ _
      rw [g1]
      refine ⟨_, rfl, iteF (A := True) ?_⟩
      refine ⟨_, rfl, _, rfl, by show (num_ n).length ≤ 900; omega, tab, fun H1 b1 t1 => ?_⟩
      show ∃ d, V.bl (isN (num_ n)) = .bl d ∧ _
      rw [g2]
      refine ⟨_, rfl, iteT (B := True) ?_⟩
      refine ⟨_, rfl, _, rfl, _, _, rfl, g3, by show (num_ n).length ≤ 640; omega, by show 3 ≤ sizeLine; decide, fun p hp => ?_⟩
      obtain ⟨b, t2⟩ := new hp t1
      refine q p _ (b1.trans b) t2 ?_
      rw [tv]; exact SqT.of upd_same
    | hd x0 y =>
      obtain ⟨_, hy1, hy2⟩ := ok
      obtain ⟨i, rfl⟩ := fin26 (y := y) (by omega) (by omega)
      obtain ⟨g1, g2, g3, g4, g5, g6, g7⟩ := f3 i
      have vz : (lval (.hd x0 (97 + i.val))).length = 6 := g7
      generalize ev : lval (.hd x0 (97 + i.val)) = v at vz ⊢
      have ev' : (ch (97 + i.val) ++ ("." : Str)) ++ ("head" : Str) = v := ev
      rw [ev'] at g1 g2 g3 g4 g5 g6 g7
      refine ⟨_, rfl, _, rfl, by omega, ?_⟩
      rw [g1]
      refine ⟨_, rfl, iteF (A := True) ?_⟩
      refine ⟨_, rfl, _, rfl, by omega, tab, fun H1 b1 t1 => ?_⟩
      rw [g2]
      refine ⟨_, rfl, iteF (A := True) ?_⟩
      refine ⟨_, rfl, _, rfl, _, rfl, small30 (by omega), ?_⟩
      refine ⟨_, rfl, by rw [g3, len_ch]; decide, ?_⟩
      rw [g3, f1 i]
      refine ⟨_, rfl, iteT (B := True) ?_⟩
      refine ⟨_, rfl, _, rfl, _, rfl, small30 (by omega), ?_⟩
      rw [g4]
      refine ⟨by show 2 ≤ sizeLine; decide, fun r hr2 => ?_⟩
      obtain ⟨b2, t2⟩ := new hr2 t1
      refine ⟨r, [.str (".head" : Str), .str (".tail" : Str)], rfl, .inr (SqT.of upd_same), rfl, rfl, _, rfl, ?_⟩
      refine iteT (B := True) ?_
      refine ⟨_, rfl, _, rfl, _, rfl, small30 (by omega), ?_⟩
      rw [g5]
      refine ⟨_, rfl, _, rfl, _, 0, 97 + i.val, rfl, rfl, small30 (by omega), atI_nat (j := 0) g6, by show 3 ≤ sizeLine; decide, fun p hp => ?_⟩
      obtain ⟨b3, t3⟩ := new hp t2
      refine q p _ ((b1.trans b2).trans b3) t3 ?_
      rw [tv]; exact SqT.of upd_same
    | tl x0 y =>
      obtain ⟨_, hy1, hy2⟩ := ok
      obtain ⟨i, rfl⟩ := fin26 (y := y) (by omega) (by omega)
      obtain ⟨g1, g2, g3, g4, g5, g6, g7⟩ := f4 i
      have vz : (lval (.tl x0 (97 + i.val))).length = 6 := g7
      generalize ev : lval (.tl x0 (97 + i.val)) = v at vz ⊢
      have ev' : (ch (97 + i.val) ++ ("." : Str)) ++ ("tail" : Str) = v := ev
      rw [ev'] at g1 g2 g3 g4 g5 g6 g7
      refine ⟨_, rfl, _, rfl, by omega, ?_⟩
      rw [g1]
      refine ⟨_, rfl, iteF (A := True) ?_⟩
      refine ⟨_, rfl, _, rfl, by omega, tab, fun H1 b1 t1 => ?_⟩
      rw [g2]
      refine ⟨_, rfl, iteF (A := True) ?_⟩
      refine ⟨_, rfl, _, rfl, _, rfl, small30 (by omega), ?_⟩
      refine ⟨_, rfl, by rw [g3, len_ch]; decide, ?_⟩
      rw [g3, f1 i]
      refine ⟨_, rfl, iteT (B := True) ?_⟩
      refine ⟨_, rfl, _, rfl, _, rfl, small30 (by omega), ?_⟩
      rw [g4]
      refine ⟨by show 2 ≤ sizeLine; decide, fun r hr2 => ?_⟩
      obtain ⟨b2, t2⟩ := new hr2 t1
      refine ⟨r, [.str (".head" : Str), .str (".tail" : Str)], rfl, .inr (SqT.of upd_same), rfl, rfl, _, rfl, ?_⟩
      refine iteT (B := True) ?_
      refine ⟨_, rfl, _, rfl, _, rfl, small30 (by omega), ?_⟩
      rw [g5]
      refine ⟨_, rfl, _, rfl, _, 0, 97 + i.val, rfl, rfl, small30 (by omega), atI_nat (j := 0) g6, by show 3 ≤ sizeLine; decide, fun p hp => ?_⟩
      obtain ⟨b3, t3⟩ := new hp t2
      refine q p _ ((b1.trans b2).trans b3) t3 ?_
      rw [tv]; exact SqT.of upd_same
    | pair x0 y z =>
      obtain ⟨_, ⟨hy1, hy2⟩, hz1, hz2⟩ := ok
      obtain ⟨i, rfl⟩ := fin26 (y := y) (by omega) (by omega)
      obtain ⟨j, rfl⟩ := fin26 (y := z) (by omega) (by omega)
      obtain ⟨g1, g2, g3, g4, g5, g6, g7, g8⟩ := f5 i j
      have vz : (lval (.pair x0 (97 + i.val) (97 + j.val))).length = 6 := g7
      generalize ev : lval (.pair x0 (97 + i.val) (97 + j.val)) = v at vz ⊢
      have ev' : ((("[" : Str) ++ ch (97 + i.val)) ++ (", " : Str)) ++ ch (97 + j.val) ++ ("]" : Str) = v := ev
      rw [ev'] at g1 g2 g3 g4 g5 g6 g7 g8
      refine ⟨_, rfl, _, rfl, by omega, ?_⟩
      rw [g1]
      refine ⟨_, rfl, iteF (A := True) ?_⟩
      refine ⟨_, rfl, _, rfl, by omega, tab, fun H1 b1 t1 => ?_⟩
      rw [g2]
      refine ⟨_, rfl, iteF (A := True) ?_⟩
      refine ⟨_, rfl, _, rfl, _, rfl, small30 (by omega), ?_⟩
      refine ⟨_, rfl, by rw [g4]; decide, ?_⟩
      rw [g3]
      refine ⟨_, rfl, iteF (A := True) ?_⟩
      refine ⟨_, rfl, _, rfl, _, rfl, _, rfl, small30 (by omega), ?_⟩
      rw [g5]
      refine ⟨_, rfl, _, rfl, _, rfl, _, rfl, small30 (by omega), ?_⟩
      rw [g6]
      refine ⟨_, rfl, _, rfl, by rw [len_ch]; decide, ?_⟩
      rw [f1 i]
      refine ⟨_, rfl, iteT (B := True) ?_⟩
      refine ⟨_, rfl, _, rfl, by rw [len_ch]; decide, ?_⟩
      rw [f1 j]
      refine ⟨_, rfl, iteT (B := True) ?_⟩
      have le : ∀ {n : Nat}, n ≤ 20 → n ≤ sizeLine := fun h => small30 (by omega)
      have z0 : Str.empty.length = 0 := rfl
      have z1 : ("[" : Str).length = 1 := by decide +kernel
      have z2 : (", " : Str).length = 2 := by decide +kernel
      have z3 : ("]" : Str).length = 1 := by decide +kernel
      refine ⟨_, rfl, _, rfl, le (by simp only [len_app, len_ch, z0, z1]; decide), _, rfl, .inl ⟨_, rfl, le (by simp only [len_ch]; decide), _, rfl, le (by simp only [len_app, len_ch, z0, z1]; decide), _, rfl, le (by simp only [len_app, len_ch, z0, z1, z2]; decide), _, rfl, .inl ⟨_, rfl, le (by simp only [len_ch]; decide), _, rfl, le (by simp only [len_app, len_ch, z0, z1, z2]; decide), _, rfl, le (by simp only [len_app, len_ch, z0, z1, z2, z3]; decide), ?_⟩⟩⟩
      rw [g8]
      refine ⟨rfl, _, rfl, ?_⟩
      rw [decide_eq_true (show V.str v = V.str v from rfl)]
      refine iteT (B := True) ?_
      refine ⟨_, rfl, _, rfl, _, rfl, by show 4 ≤ sizeLine; decide, fun p hp => ?_⟩
      obtain ⟨b, t2⟩ := new hp t1
      refine q p _ (b1.trans b) t2 ?_
      rw [tv]; exact SqT.of upd_same
end
end Kp
end
section
set_option Elab.async false
set_option linter.all false
set_option maxRecDepth 100000
set_option maxHeartbeats 4000000
namespace Kp
open PySem L2

open Ka
theorem lstrip_id {z : Str} {c : Nat} {r : List Nat} (h : z.cps.toList = c :: r) (hc : c ≠ 32) : Txt.lstripChars z (" " : Str) = z := by
  have e : (" " : Str).cps = #[32] := by decide +kernel
  have g : (" " : Str).cps.contains c = false := by rw [e]; simp; exact hc
  unfold Txt.lstripChars Txt.stripBy
  rw [if_pos]
  unfold stripSame stripLo stripHi
  rw [if_pos rfl, h, List.takeWhile_cons, g]
  simp
theorem num_10 : ∀ n, n < 1000 → 10 ∉ (num_ n).cps.toList := by
  intro n h
  have : ∀ n : Fin 1000, 10 ∉ (num_ n.val).cps.toList := by decide +kernel
  exact this ⟨n, h⟩
theorem cps_ch (c : Nat) : (ch c).cps.toList = [c] := rfl
theorem txt_ok {lo : Nat} (h1 : 97 ≤ lo) (h2 : lo + 6 ≤ 123) (s : Stm) (hs : ∀ l, s = .pl l → l.ok lo) : 10 ∉ s.txt.cps.toList ∧ s.txt.length ≤ 20 ∧ ∃ c r, s.txt.cps.toList = c :: r ∧ c ≠ 32 := by
  have s1 : (" = " : Str).cps.toList = [32, 61, 32] := by decide +kernel
  have s2 : (" = [" : Str).cps.toList = [32, 61, 32, 91] := by decide +kernel
  have s3 : ("print " : Str).cps.toList = [112, 114, 105, 110, 116, 32] := by decide +kernel
  have s4 : (", " : Str).cps.toList = [44, 32] := by decide +kernel
  have s5 : ("]" : Str).cps.toList = [93] := by decide +kernel
  have s6 : ("." : Str).cps.toList = [46] := by decide +kernel
  have s7 : ("head" : Str).cps.toList = [104, 101, 97, 100] := by decide +kernel
  have s8 : ("tail" : Str).cps.toList = [116, 97, 105, 108] := by decide +kernel
  have ll : ∀ z : Str, z.length = z.cps.toList.length := fun z => by simp [Str.length]
  cases s with
  | pl l =>
    have ok := hs l rfl
    cases l with
    | num x n =>
      obtain ⟨⟨hx1, hx2⟩, hn⟩ := ok
      have n1 := num_10 n hn
      have n2 := num_len n hn
      rw [ll] at n2
      have e : (Stm.txt (.pl (.num x n))).cps.toList = x :: 32 :: 61 :: 32 :: (num_ n).cps.toList := by
        show ((ch x ++ (" = " : Str)) ++ num_ n).cps.toList = _
        rw [cps_app, cps_app, cps_ch, s1]; rfl
      refine ⟨?_, ?_, x, _, e, by omega⟩
      · rw [e]; simp only [List.mem_cons, not_or]; exact ⟨by omega, by omega, by omega, by omega, n1⟩
      · rw [ll, e]; simp only [List.length_cons]; omega
    | copy x y =>
      obtain ⟨⟨hx1, hx2⟩, hy1, hy2⟩ := ok
      have e : (Stm.txt (.pl (.copy x y))).cps.toList = [x, 32, 61, 32, y] := by
        show ((ch x ++ (" = " : Str)) ++ ch y).cps.toList = _
        rw [cps_app, cps_app, cps_ch, s1, cps_ch]; rfl
      refine ⟨?_, ?_, x, _, e, by omega⟩
      · rw [e]; simp only [List.mem_cons, not_or, List.not_mem_nil, not_false_eq_true, and_true]; omega
      · rw [ll, e]; simp
    | pair x y z =>
      obtain ⟨⟨hx1, hx2⟩, ⟨hy1, hy2⟩, hz1, hz2⟩ := ok
      have e : (Stm.txt (.pl (.pair x y z))).cps.toList = [x, 32, 61, 32, 91, y, 44, 32, z, 93] := by
        show (((((ch x ++ (" = [" : Str)) ++ ch y) ++ (", " : Str)) ++ ch z) ++ ("]" : Str)).cps.toList = _
        rw [cps_app, cps_app, cps_app, cps_app, cps_app, cps_ch, cps_ch, cps_ch, s2, s4, s5]; rfl
      refine ⟨?_, ?_, x, _, e, by omega⟩
      · rw [e]; simp only [List.mem_cons, not_or, List.not_mem_nil, not_false_eq_true, and_true]; omega
      · rw [ll, e]; simp
    | hd x y =>
      obtain ⟨⟨hx1, hx2⟩, hy1, hy2⟩ := ok
      have e : (Stm.txt (.pl (.hd x y))).cps.toList = [x, 32, 61, 32, y, 46, 104, 101, 97, 100] := by
        show ((((ch x ++ (" = " : Str)) ++ ch y) ++ ("." : Str)) ++ ("head" : Str)).cps.toList = _
        rw [cps_app, cps_app, cps_app, cps_app, cps_ch, cps_ch, s1, s6, s7]; rfl
      refine ⟨?_, ?_, x, _, e, by omega⟩
      · rw [e]; simp only [List.mem_cons, not_or, List.not_mem_nil, not_false_eq_true, and_true]; omega
      · rw [ll, e]; simp
    | tl x y =>
      obtain ⟨⟨hx1, hx2⟩, hy1, hy2⟩ := ok
      have e : (Stm.txt (.pl (.tl x y))).cps.toList = [x, 32, 61, 32, y, 46, 116, 97, 105, 108] := by
        show ((((ch x ++ (" = " : Str)) ++ ch y) ++ ("." : Str)) ++ ("tail" : Str)).cps.toList = _
        rw [cps_app, cps_app, cps_app, cps_app, cps_ch, cps_ch, s1, s6, s8]; rfl
      refine ⟨?_, ?_, x, _, e, by omega⟩
      · rw [e]; simp only [List.mem_cons, not_or, List.not_mem_nil, not_false_eq_true, and_true]; omega
      · rw [ll, e]; simp
    | prt x =>
      have e : (Stm.txt (.pl (.prt x))).cps.toList = [112, 114, 105, 110, 116, 32, x] := by
        show (("print " : Str) ++ ch x).cps.toList = _
        rw [cps_app, cps_ch, s3]; rfl
      have ok : lo ≤ x ∧ x < lo + 6 := ok
      refine ⟨?_, ?_, 112, _, e, by omega⟩
      · rw [e]; simp only [List.mem_cons, not_or, List.not_mem_nil, not_false_eq_true, and_true]; omega
      · rw [ll, e]; simp
  | block => exact ⟨by decide +kernel, by decide +kernel, 123, [], by decide +kernel, by decide⟩
  | iff => exact ⟨by decide +kernel, by decide +kernel, 105, [102, 32, 63, 32, 123], by decide +kernel, by decide⟩
  | els => exact ⟨by decide +kernel, by decide +kernel, 125, [32, 101, 108, 115, 101, 32, 123], by decide +kernel, by decide⟩
  | whl => exact ⟨by decide +kernel, by decide +kernel, 119, [104, 105, 108, 101, 32, 63, 32, 123], by decide +kernel, by decide⟩
  | fin => exact ⟨by decide +kernel, by decide +kernel, 125, [], by decide +kernel, by decide⟩
theorem txts_ok {lo : Nat} (h1 : 97 ≤ lo) (h2 : lo + 6 ≤ 123) {T : Ka.Tree} (h : T.okT lo) : ∀ z ∈ T.flat.map Stm.txt, 10 ∉ z.cps.toList ∧ z.length ≤ 900 ∧ Txt.lstripChars z (" " : Str) = z ∧ z ≠ ("" : Str) := by
  intro z hz
  obtain ⟨s, hs, rfl⟩ := List.mem_map.mp hz
  obtain ⟨a, b, c, r, e, ne⟩ := txt_ok h1 h2 s fun l hl => okT_mem T h l (by rw [← hl]; exact hs)
  refine ⟨a, by omega, lstrip_id e ne, fun q => ?_⟩
  rw [q] at e
  have : ("" : Str).cps.toList = [] := by decide +kernel
  rw [this] at e; cases e
theorem sum_le : ∀ (l : List Nat) (k : Nat), (∀ x ∈ l, x ≤ k) → l.sum ≤ l.length * k
  | [], k, _ => by simp
  | x :: l, k, h => by
    have := sum_le l k fun y hy => h y (List.mem_cons_of_mem _ hy)
    have := h x (List.mem_cons_self ..)
    simp only [List.sum_cons, List.length_cons, Nat.add_mul, Nat.one_mul]; omega
theorem txts_sum {lo : Nat} (h1 : 97 ≤ lo) (h2 : lo + 6 ≤ 123) {T : Ka.Tree} (h : T.okT lo) : ((T.flat.map Stm.txt).map (·.length)).sum ≤ T.flat.length * 20 := by
  have := sum_le ((T.flat.map Stm.txt).map (·.length)) 20 fun x hx => by
    rw [List.map_map] at hx
    obtain ⟨s, hs, rfl⟩ := List.mem_map.mp hx
    exact (txt_ok h1 h2 s fun l hl => okT_mem T h l (by rw [← hl]; exact hs)).2.1
  simpa using this
theorem join_le {lo : Nat} (h1 : 97 ≤ lo) (h2 : lo + 6 ≤ 123) {T : Ka.Tree} (h : T.okT lo) (hl : T.flat.length ≤ 80) : (Txt.join ("\n" : Str) (T.flat.map Stm.txt)).length ≤ 4000 := by
  have a := txts_sum h1 h2 h
  have b := StrLaws.join_length_le ("\n" : Str) (T.flat.map Stm.txt)
  have c : ("\n" : Str).length = 1 := by decide +kernel
  rw [TL.join_eq]
  rw [c, List.length_map] at b
  omega
end Kp
end
section
set_option Elab.async false
set_option linter.all false
set_option maxRecDepth 100000
set_option maxHeartbeats 4000000
namespace Kp
open PySem L2

open Ka
theorem str_ext {a b : Str} (h : a.cps.toList = b.cps.toList) : a = b := by
  cases a with
  | mk x => cases b with
    | mk y => exact congrArg Str.mk (Array.toList_inj.mp h)
theorem cut_toList (z : Str) (lo hi : Option Int) : (cutS z lo hi).cps.toList = (z.cps.toList.drop (HT.sIx z.length 0 lo)).take (HT.sIx z.length z.length hi - HT.sIx z.length 0 lo) := by unfold cutS; rw [List.toList_toArray]
theorem sw_false {t : Str} (h : t.cps.toList[1]? = some 32) : Txt.startswith t ("print " : Str) = false := by
  cases e : Txt.startswith t ("print " : Str) with
  | false => rfl
  | true =>
    unfold Txt.startswith at e
    rw [Bool.and_eq_true] at e
    have e2 : t.cps.extract 0 (0 + ("print " : Str).length) = ("print " : Str).cps := eq_of_beq e.2
    have e3 := congrArg Array.toList e2
    rw [Array.toList_extract] at e3
    have e4 : ("print " : Str).cps.toList = [112, 114, 105, 110, 116, 32] := by decide +kernel
    have e5 : ("print " : Str).length = 6 := by decide +kernel
    rw [e4, e5] at e3
    have e6 := congrArg (fun l : List Nat => l[1]?) e3
    simp only [List.extract_eq_take_drop] at e6
    simp [List.getElem?_take, h] at e6
theorem prt_facts : ∀ i : Fin 26, (fun v : Str => Txt.startswith v ("print " : Str) = true ∧ cutS v (some 6) none = ch (97 + i.val) ∧ v.length = 7 ∧ v ∉ (["{", "if ? {", "} else {", "while ? {", "}"] : List Str)) (("print " : Str) ++ ch (97 + i.val)) := by decide +kernel
theorem asg_list (l : Ln) (x : Nat) (hl : (∃ n, l = .num x n) ∨ (∃ y, l = .copy x y) ∨ (∃ y z, l = .pair x y z) ∨ (∃ y, l = .hd x y) ∨ ∃ y, l = .tl x y) : l.txt.cps.toList = x :: 32 :: 61 :: 32 :: (lval l).cps.toList := by
  have s1 : (" = " : Str).cps.toList = [32, 61, 32] := by decide +kernel
  have s2 : (" = [" : Str).cps.toList = [32, 61, 32, 91] := by decide +kernel
  have s3 : ("[" : Str).cps.toList = [91] := by decide +kernel
  rcases hl with ⟨n, rfl⟩ | ⟨y, rfl⟩ | ⟨y, z, rfl⟩ | ⟨y, rfl⟩ | ⟨y, rfl⟩ <;> simp [Ln.txt, lval, cps_app, s1, s2, s3, show ∀ c, (ch c).cps.toList = [c] from fun _ => rfl]
theorem asg_cuts {t v : Str} {x : Nat} (h : t.cps.toList = x :: 32 :: 61 :: 32 :: v.cps.toList) : cutS t none (some 1) = ch x ∧ cutS t (some 1) (some 4) = (" = " : Str) ∧ cutS t (some 4) none = v := by
  have ll : t.length = v.cps.toList.length + 4 := by
    have : t.length = t.cps.toList.length := by simp [Str.length]
    rw [this, h]; simp
  have s1 : HT.sIx t.length t.length (some 1) = 1 := by rw [show (1 : Int) = ((1 : Nat) : Int) from rfl, HT.sIx_nat, ll]; omega
  have s1' : HT.sIx t.length 0 (some 1) = 1 := by rw [show (1 : Int) = ((1 : Nat) : Int) from rfl, HT.sIx_nat, ll]; omega
  have s4 : HT.sIx t.length t.length (some 4) = 4 := by rw [show (4 : Int) = ((4 : Nat) : Int) from rfl, HT.sIx_nat, ll]; omega
  have s4' : HT.sIx t.length 0 (some 4) = 4 := by rw [show (4 : Int) = ((4 : Nat) : Int) from rfl, HT.sIx_nat, ll]; omega
  refine ⟨str_ext ?_, str_ext ?_, str_ext ?_⟩
  · rw [cut_toList, s1, HT.sIx_none, h]; rfl
  · rw [cut_toList, s1', s4, h]
    have : (" = " : Str).cps.toList = [32, 61, 32] := by decide +kernel
    rw [this]; rfl
  · rw [cut_toList, s4', HT.sIx_none, h, ll]
    show List.take (v.cps.toList.length + 4 - 4) v.cps.toList = _
    rw [Nat.add_sub_cancel, List.take_length]
section
variable {X : Cx} {o i : Expr} {to ti : TE} {pos : Pos} {d : Addr} {es : Array DictEntry} {n : Nat}
def rKget (K : PySem.W.Frag) (d : Addr) : R2 := fun x y H Q => ∃ (z : Str) (u0 : Value) (v0 : V), x = .ref d ∧ y = .str z ∧ PySem.W.nsIn K d z = some (some u0) ∧ RelV v0 u0 ∧ Q v0 H
/-- D[key], D a written dict of the module -/
theorem pe_kget (D : KDict X.K X.w d es n) (ho : PE X o to) (hi : PE X i ti) (hs : NoSl i) : PE X (.Subscript o i pos) (tOp (rKget X.K d) to ti) := by
  refine ⟨fun pins s σ H Q I h => ?_⟩
  refine subD_of PySem.F.slot_dict_getitem.lookup hs (thn (ho.run pins s σ H _ I h) fun u s1 ⟨x, H1, I1, rx, q1⟩ => thn (hi.run pins s1 σ H1 _ I1 q1) fun iv s2 ⟨y, H2, I2, ry, q2⟩ => ?_)
  have got : rKget X.K d x y H2 Q := q2
  obtain ⟨z, u0, v0, ex, _⟩ := q2
  subst ex
  have eu : u = Value.ref d := rx
  subst eu
  exact ⟨kd_type D I2, op_item_kd D pins s2 σ H2 _ _ _ _ Q I2 rx ry got⟩
end
section
variable {P : Program} {w : World} {K : PySem.W.Frag} {mg : Str → Option Value} {base : Heap}
theorem scN_stm : FnScope ["line"] ["line"] (defScope s_statement_of) := ⟨rfl, rfl, rfl, by decide +kernel, rfl, by decide +kernel, by decide +kernel⟩
theorem ok_stm {c PT : Addr} (T : Tx K w mg) (no : ∀ z : Str, z ∉ (["{", "if ? {", "} else {", "while ? {", "}"] : List Str) → PySem.W.nsIn K T.a_SCOPE_LINES z = some none) (TB : GxR.TabB base mg c PT) (hcd : T.d_is_number.code = .ref c) : FnOk P w K mg base CX0 3 T.f_statement_of T.d_statement_of ["line"] (spStmt K PT) := by
  have G_is_variable := ok_isv (P := P) (base := base) T
  have G_assignment_of := ok_asg (P := P) (base := base) T TB hcd
  refine T.statement_of.F.ok scN_stm (fun vs H Q E h => ?_) (fun cdv A outer s H vs Q E hr h => ?_)
  · obtain ⟨s, lo, rfl, _⟩ := h
    rfl
  · obtain ⟨st, lo, rfl, lo1, lo2, hok, tab, q⟩ := h
    have hr1 := hr.mono (by decide : 1 ≤ 2)
    refine ⟨_, (pss_cons (ps_if (pt_cmpR (op_in_kd T.t_SCOPE_LINES) (pv 0) (pe_glob (v := .ref T.a_SCOPE_LINES) rfl T.k_SCOPE_LINES rfl) (by rfl)) (pss_one (ps_ret (pe_kget T.t_SCOPE_LINES (pe_glob (v := .ref T.a_SCOPE_LINES) rfl T.k_SCOPE_LINES rfl) (pv 0) (fun _ _ => rfl)))) pss_nil)
        (pss_cons (ps_if (PW.pt (pw_and (pt_val (pe_m1 PySem.F.slot_str_startswith PySem.F.type_str_startswith mt_startswith (pv 0) pe_str)) (pw_and1 (pt_val (pe_call G_is_variable hr1 (by rfl) T.is_variable.g T.is_variable.F.kp T.is_variable.b .nil pass0 (pa_cons (pe_slice sl_str (pv 0) (po_some pe_int) po_none) pa_nil)))))) (pss_one (ps_ret (pe_tup (pa_cons pe_str (pa_cons (pe_slice sl_str (pv 0) (po_some pe_int) po_none) pa_nil))))) pss_nil)
        (pss_cons (ps_if (PW.pt (pw_and (pt_val (pe_call G_is_variable hr1 (by rfl) T.is_variable.g T.is_variable.F.kp T.is_variable.b .nil pass0 (pa_cons (pe_slice sl_str (pv 0) po_none (po_some pe_int)) pa_nil))) (pw_and1 (pt_cmpR op_eq (pe_slice sl_str (pv 0) (po_some pe_int) (po_some pe_int)) pe_str (nomark _))))) (pss_one (ps_ret (pe_call G_assignment_of hr (by rfl) T.assignment_of.g T.assignment_of.F.kp T.assignment_of.b .nil pass0 (pa_cons (pe_ix ix_str (pv 0) pe_int (fun _ _ => rfl)) (pa_cons (pe_slice sl_str (pv 0) (po_some pe_int) po_none) pa_nil))))) pss_nil)
        (pss_one (ps_ret pe_non))))), ?_⟩
    cases st with
    | block =>
      obtain ⟨b, e1, e2⟩ := T.v0_SCOPE_LINES
      exact ⟨_, rfl, _, _, rfl, rfl, e1, _, rfl, iteT (B := True) ⟨_, rfl, _, _, .ref b, rfl, rfl, e1, rfl, q b H (But.refl _ _) tab (e2 H)⟩⟩
    | iff =>
      obtain ⟨b, e1, e2⟩ := T.v1_SCOPE_LINES
      exact ⟨_, rfl, _, _, rfl, rfl, e1, _, rfl, iteT (B := True) ⟨_, rfl, _, _, .ref b, rfl, rfl, e1, rfl, q b H (But.refl _ _) tab (e2 H)⟩⟩
    | els =>
      obtain ⟨b, e1, e2⟩ := T.v2_SCOPE_LINES
      exact ⟨_, rfl, _, _, rfl, rfl, e1, _, rfl, iteT (B := True) ⟨_, rfl, _, _, .ref b, rfl, rfl, e1, rfl, q b H (But.refl _ _) tab (e2 H)⟩⟩
    | whl =>
      obtain ⟨b, e1, e2⟩ := T.v3_SCOPE_LINES
      exact ⟨_, rfl, _, _, rfl, rfl, e1, _, rfl, iteT (B := True) ⟨_, rfl, _, _, .ref b, rfl, rfl, e1, rfl, q b H (But.refl _ _) tab (e2 H)⟩⟩
    | fin =>
      obtain ⟨b, e1, e2⟩ := T.v4_SCOPE_LINES
      exact ⟨_, rfl, _, _, rfl, rfl, e1, _, rfl, iteT (B := True) ⟨_, rfl, _, _, .ref b, rfl, rfl, e1, rfl, q b H (But.refl _ _) tab (e2 H)⟩⟩
    | pl l =>
      have ok := hok l rfl
      have key : (∃ x, l = .prt x ∧ 97 ≤ x ∧ x < 123) ∨ ∃ x, 97 ≤ x ∧ x < 123 ∧ l.txt.cps.toList = x :: 32 :: 61 :: 32 :: (lval l).cps.toList ∧ (∀ x, l ≠ .prt x) ∧ toldV l = .str (Stm.word (.pl l)) :: .str (ch x) :: (toldV l).drop 2 := by
        cases l with
        | prt x => have ok : lo ≤ x ∧ x < lo + 6 := ok; exact .inl ⟨x, rfl, by omega, by omega⟩
        | num x n => have ok := ok.1; exact .inr ⟨x, by omega, by omega, asg_list _ x (.inl ⟨n, rfl⟩), (by intro x h; cases h), rfl⟩
        | copy x y => have ok := ok.1; exact .inr ⟨x, by omega, by omega, asg_list _ x (.inr (.inl ⟨y, rfl⟩)), (by intro x h; cases h), rfl⟩
        | pair x y z => have ok := ok.1; exact .inr ⟨x, by omega, by omega, asg_list _ x (.inr (.inr (.inl ⟨y, z, rfl⟩))), (by intro x h; cases h), rfl⟩
        | hd x y => have ok := ok.1; exact .inr ⟨x, by omega, by omega, asg_list _ x (.inr (.inr (.inr (.inl ⟨y, rfl⟩)))), (by intro x h; cases h), rfl⟩
        | tl x y => have ok := ok.1; exact .inr ⟨x, by omega, by omega, asg_list _ x (.inr (.inr (.inr (.inr ⟨y, rfl⟩)))), (by intro x h; cases h), rfl⟩
      have tl : (Stm.txt (.pl l)).length ≤ 20 := (txt_ok lo1 lo2 (.pl l) (fun l' e => by cases e; exact ok)).2.1
      rcases key with ⟨x, rfl, hx1, hx2⟩ | ⟨x, hx1, hx2, hl, np, tv⟩
      · obtain ⟨i, rfl⟩ := fin26 hx1 hx2
        obtain ⟨g1, g2, g3, g4⟩ := prt_facts i
        have g1 : Txt.startswith (Stm.txt (.pl (.prt (97 + i.val)))) ("print " : Str) = true := g1
        have g2 : cutS (Stm.txt (.pl (.prt (97 + i.val)))) (some 6) none = ch (97 + i.val) := g2
        refine ⟨_, rfl, _, _, rfl, rfl, no _ g4, _, rfl, iteF (A := True) ?_⟩
        refine ⟨_, rfl, ⟨_, rfl⟩, _, _, rfl, rfl, _, rfl, ?_⟩
        rw [g1]
        refine iteT (B := True) ?_
        refine ⟨_, rfl, _, rfl, _, rfl, small30 (by omega), ?_⟩
        rw [g2]
        refine ⟨_, rfl, by rw [len_ch]; decide, ?_⟩
        rw [f1 i]
        refine ⟨_, rfl, iteT (B := True) ?_⟩
        refine ⟨_, rfl, _, rfl, _, rfl, small30 (by omega), ?_⟩
        rw [g2]
        refine ⟨by show 2 ≤ sizeLine; decide, fun p hp => ?_⟩
        obtain ⟨ps, e, r⟩ := tab
        exact q p _ (But.same (same_new hp _) _) ⟨ps, same_new hp _ _ _ e, r⟩ (SqT.of upd_same)
      · have hl' : (Stm.txt (.pl l)).cps.toList = x :: 32 :: 61 :: 32 :: (lval l).cps.toList := hl
        have nk : (Stm.txt (.pl l)) ∉ (["{", "if ? {", "} else {", "while ? {", "}"] : List Str) := fun m => by
          have : ∀ z ∈ (["{", "if ? {", "} else {", "while ? {", "}"] : List Str), ¬ (z.cps.toList[1]? = some 32 ∧ z.cps.toList[2]? = some 61) := by decide +kernel
          exact this _ m (by rw [hl']; exact ⟨rfl, rfl⟩)
        obtain ⟨c1, c2, c3⟩ := asg_cuts hl'
        have sw : Txt.startswith (Stm.txt (.pl l)) ("print " : Str) = false := sw_false (by rw [hl']; rfl)
        obtain ⟨i, rfl⟩ := fin26 hx1 hx2
        refine ⟨_, rfl, _, _, rfl, rfl, no _ nk, _, rfl, iteF (A := True) ?_⟩
        refine ⟨_, rfl, ⟨_, rfl⟩, _, _, rfl, rfl, _, rfl, ?_⟩
        rw [sw]
        refine iteF (A := True) ?_
        refine ⟨_, rfl, _, rfl, _, rfl, small30 (by omega), ?_⟩
        rw [c1]
        refine ⟨_, rfl, by rw [len_ch]; decide, ?_⟩
        rw [f1 i]
        refine ⟨_, rfl, iteT (B := True) ?_⟩
        refine ⟨_, rfl, _, rfl, _, rfl, _, rfl, small30 (by omega), ?_⟩
        rw [c2]
        refine ⟨rfl, _, rfl, iteT (B := True) ?_⟩
        refine ⟨_, rfl, _, 0, 97 + i.val, rfl, rfl, small30 (by omega), by rw [hl']; exact atI_nat (j := 0) rfl, _, rfl, _, rfl, _, rfl, small30 (by omega), ?_⟩
        rw [c3]
        exact ⟨97 + i.val, l, lo, rfl, lo1, lo2, ok, np, tv, tab, q⟩
end
end Kp
end
section
set_option Elab.async false
set_option linter.all false
set_option maxRecDepth 100000
set_option maxHeartbeats 4000000
namespace Kp
open PySem L2
/-! isinstance of a held exception that has a dict of its own. -/
section
open PySem.Spec PyProof.Rows
def rIsD (K : PySem.W.Frag) (D a dd : Addr) : List V → Hp → VK → Prop := fun xs H Q => (∃ fs, H dd = some (.xd fs)) ∧ rIsE K D a xs H Q
theorem call_isD {X : Cx} {a D dd : Addr} {oe : Obj} {pn : List (Addr × Obj)} (C : ExcC X.K D) (hz : Zc (.ref D) (some dd) oe) (hf : ∃ vs, oe.data = .fields vs) : CallR (X.suite a ((a, oe) :: pn)) (.builtin "isinstance") (rIsD X.K D a dd) := by
  intro pins s σ H xs us Q I r wish
  obtain ⟨⟨fs, hdd⟩, c, cv, b, rfl, told, one, q⟩ := wish
  cases r with
  | cons rx rr =>
    cases rr with
    | cons rt rr =>
      cases rr
      cases rx
      have ec := told _ rt
      subst ec
      obtain ⟨stands, _⟩ := I.pin (a, oe) (List.mem_append_left _ List.mem_cons_self)
      obtain ⟨vs, hv⟩ := hf
      have hx : ObjOk X.prog X.w H s.heap dd (.xd fs) := I.hok dd _ hdd
      obtain ⟨mA, names, _⟩ := hx
      obtain ⟨od, ho, _⟩ := lookIn_ns names
      have J : PySem.W.InstAt s.heap a oe D (some od) := ⟨stands, hz.1, by unfold PySem.W.notCls; rw [hv] <;> rfl, by rw [hz.2]; exact ho⟩
      obtain ⟨cd, hcd, _⟩ := PySem.W.any_some C.hd
      exact PySem.W.kia_one (PySem.W.kitx_exc (by rw [hcd]; rfl) C.hg C.hk C.hs C.ha C.hn C.ht C.hm) I.kIn J one (fun z => nomatch z) fun tk => ⟨.bl b, H, I.kept (t' := tk) fun _ _ z => z, rfl, q⟩
theorem pe_isD {X : Cx} {a D : Addr} {oe : Obj} {cls : Value} {d : Option Addr} {pn : List (Addr × Obj)} {es : List Expr} {e : Expr} {ta : TA} {p pos : Pos} (C : ExcC X.K D) (hz : Zc cls d oe) (hf : ∃ vs, oe.data = .fields vs)
    (hg : Gl X "isinstance") (hm : X.mg "isinstance" = none) (ha : PA (X.suite a ((a, oe) :: pn)) (e :: es) ta)
    (hs : starEach (e :: es) X.env = (false, eval e X.env) :: starEach es X.env := by rfl) (hpl : (backTo pos (starEach es X.env)).any (·.1) = false := by rfl) :
    PE (X.suite a ((a, oe) :: pn)) (.Call (.Name "isinstance" p) (e :: es) [] pos) (fun σ H Q => cls = .ref D ∧ ∃ dd, d = some dd ∧ ta σ H fun xs H1 => rIsD X.K D a dd xs H1 Q) := by
  refine ⟨fun pins st σ H Q I wish => ?_⟩
  obtain ⟨rfl, dd, rfl, q⟩ := wish
  exact (pe_callB (X := X.suite a ((a, oe) :: pn)) (call_isD C hz hf) hg hm (by decide +kernel) ha (he := hs) (hpl := hpl)).run pins st σ H Q I q
end
end Kp
end
section
set_option Elab.async false
set_option linter.all false
set_option maxRecDepth 100000
set_option maxHeartbeats 4000000
namespace Kp
open PySem L2

open Ka
theorem small_log2 {z : Int} (h1 : -1000 ≤ z) (h2 : z ≤ 1000) : z.natAbs.log2 < 1920 := by
  have : z.natAbs.log2 ≤ z.natAbs := Nat.log2_le_self _
  omega
theorem small_txt2 {z : Int} (h1 : -1000 ≤ z) (h2 : z ≤ 1000) : (Str.ofString (toString z)).length ≤ 10 := by
  have all : ∀ k : Fin 2001, (Str.ofString (toString ((k.val : Int) - 1000))).length ≤ 10 := by decide +kernel
  have := all ⟨(z + 1000).toNat, by omega⟩
  simp only [show (((z + 1000).toNat : Nat) : Int) - 1000 = z by omega] at this
  exact this
section
variable {P : Program} {w : World} {K : PySem.W.Frag} {mg : Str → Option Value} {base : Heap}
/-- what stands where BadProgram(k, r) has been made -/
def badH (H : Hp) (a d C : Addr) (k : Int) (r : Str) : Hp := upd (upd (upd H d (exd d [(("line" : Str), .int k)])) a (exo a C (some d))) d (exd d [(("reason" : Str), .str r), (("line" : Str), .int k)])
def spBI (C : Addr) : Sp := fun vs H Q _ => ∃ (a : Addr) (k : Int) (r : Str), vs = [.ref a, .int k, .str r] ∧ 0 ≤ k ∧ k ≤ 1000 ∧ r.length ≤ 100 ∧ H a = some (exo a C none) ∧ ∀ d, H d = none → d ≠ a → Q .non (badH H a d C k r)
theorem scN_bi (cc c : Addr) : NdefX.NScope ["self", "line", "reason", "__class__"] ["self", "line", "reason"] ["__class__"] (nfB s_BadProgram_init "__init__" "BadProgram.__init__" cc c).scope := NdefX.nscope_by (by show NdefX.nscB _ _ _ (defScope s_BadProgram_init) = true; decide +kernel)
theorem ok_bi (hP : P = PySem.Challenge.pw_scopefree_k02_what_does_not_fit) (T : Tx K w mg) : FnOk P w K mg base CX0 1 T.f_BadProgram_init T.d_BadProgram_init ["self", "line", "reason"] (spBI T.C_BadProgram) := by
  subst hP
  refine fn_super T.su_BadProgram (scN_bi _ _) (fun vs H Q E h => ?_) (fun A outer s s1 H vs Q E hr h I => ?_)
  · obtain ⟨a, k, r, rfl, _⟩ := h
    rfl
  · obtain ⟨a, k, r, rfl, k0, k1, rl, ha, q⟩ := h
    refine wat_body (X := NdefX.ncx CX0 PySem.Challenge.pw_scopefree_k02_what_does_not_fit w K mg base ["self", "line", "reason", "__class__"] (nfB s_BadProgram_init "__init__" "BadProgram.__init__" T.cc_BadProgram T.c_BadProgram_init) T.f_BadProgram_init A outer s H E) (i := 0) T.su_BadProgram T.ox_BadProgram rfl rfl (by show (defScope s_BadProgram_init).names.lookup _ = _; decide +kernel) (by show (defScope s_BadProgram_init).names.lookup _ = _; decide +kernel) (by show List.lookup _ [(("__class__" : Str), T.cc_BadProgram)] = _; rw [List.lookup_cons, beq_self_eq_true]) rfl (by show (defScope s_BadProgram_init).names.lookup _ = _; decide +kernel) rfl rfl
      (pa_cons (pe_joined (.cons pe_str (.cons (pe_fmt (pv 2)) (.cons pe_str (.cons (pe_fmt (pv 1)) .nil))))) pa_nil)
      (pss_cons (ps_ost (pv 0) (pv 1)) (pss_one (ps_ost (pv 0) (pv 2)))) I ha ?_ rfl
    have le : ∀ {n : Nat}, n ≤ 900 → n ≤ sizeLine := fun h => small30 (by omega)
    have z0 : Str.empty.length = 0 := rfl
    have z1 : ("not a program: " : Str).length = 15 := by decide +kernel
    have z2 : (", line " : Str).length = 7 := by decide +kernel
    have zk := small_txt2 (z := k) (by omega) (by omega)
    refine ⟨_, rfl, le (by simp only [Str.length_append, z0, z1]; omega), _, rfl, .inl ⟨_, rfl, le (by omega), _, rfl, le (by simp only [Str.length_append, z0, z1]; omega), _, rfl, le (by simp only [Str.length_append, z0, z1, z2]; omega), _, rfl, .inr ⟨_, rfl, small_log2 (by omega) (by omega), _, rfl, le (by simp only [Str.length_append, z0, z1, z2]; omega), ?_⟩⟩⟩
    refine ⟨by show 1 ≤ 1000; decide, ha, ?_⟩
    refine ⟨_, rfl, _, rfl, a, T.C_BadProgram, rfl, T.ox_BadProgram, T.na_BadProgram_line, .inl ⟨ha, fun d hd ne => ?_⟩⟩
    have nda : a ≠ d := fun z => ne z.symm
    refine ⟨_, rfl, _, rfl, a, T.C_BadProgram, rfl, T.ox_BadProgram, T.na_BadProgram_reason, .inr ⟨d, _, upd_same, by rw [upd_ne ne]; exact upd_same, by show 1 ≤ 900; decide, ?_⟩⟩
    exact q d hd ne
end
end Kp
end
section
set_option Elab.async false
set_option linter.all false
set_option maxRecDepth 100000
set_option maxHeartbeats 4000000
namespace Kp
open PySem L2

open Ka
section
variable {P : Program} {w : World} {K : PySem.W.Frag} {mg : Str → Option Value} {base : Heap}
/-- statements that a tree begins, then one that says nothing -/
structure BadAt (K : PySem.W.Frag) (H : Hp) (xs : List V) (T : Ka.Tree) (k : Nat) : Prop where
  le : k ≤ T.flat.length
  none : xs[k]? = some .non
  told : ∀ (i : Nat) (s : Stm), i < k → T.flat[i]? = some s → ∃ a, xs[i]? = some (.ref a) ∧ SqT K H a s.vals
def spLayR (K : PySem.W.Frag) (C : Addr) : Sp := fun vs H _ E => ∃ (t : Addr) (xs : List V) (T : Ka.Tree) (k : Nat), vs = [.ref t] ∧ SqT K H t xs ∧ BadAt K H xs T k ∧ T.flat.length ≤ 400 ∧ xs.length ≤ 400 ∧
  ∀ (d : Addr) (H' : Hp), Same H H' → H d = none → H' d = some (.xd [(("reason" : Str), .str ("statement" : Str)), (("line" : Str), .int (k : Nat))]) → E (.ref C) (some d) H'
theorem ok_layR (hP : P = PySem.Challenge.pw_scopefree_k02_what_does_not_fit) (T : Tx K w mg) : FnOk P w K mg base (L2.CX P w) 3 T.f_layout_of T.d_layout_of ["statements"] (spLayR K T.C_BadProgram) := by
  have G_Layout_init := ok_linit (P := P) (base := base) T
  have G_Layout_innermost := ok_inner (P := P) (base := base) T
  have G_Layout_misfit := ok_misfit (P := P) (base := base) T
  have G_Layout_take := ok_take2 (P := P) (base := base) T
  have G_bi := ok_bi (P := P) (base := base) hP T
  refine T.layout_of.F.okX scN_layof (fun vs H Q E h => ?_) (fun cdv A outer s H vs Q E hr h => ?_)
  · obtain ⟨t, xs, Tr, k, rfl, _⟩ := h
    rfl
  · obtain ⟨t, xs, Tr, k, rfl, ht, hx, hz, xl, q⟩ := h
    have hr1 := hr.mono (by decide : 1 ≤ 2)
    refine ⟨_, (Evl.pss_cut (ps_set (i := 1) scN_layof.nd rfl (.inl rfl) (pe_make0 T.Layout_init.m G_Layout_init hr (by rfl) T.g_Layout T.Layout_init.b .nil pass0))
        (pss_cons (ps_for PassesOwn.leaving rfl (pi_enumT (by rfl) T.B.enumerate (pa_cons (pv 0) pa_nil)) (pg_tup rfl (pgs_cons (pg_name (i := 2) scN_layof.nd rfl (.inl rfl)) (pgs_cons (pg_name (i := 3) scN_layof.nd rfl (.inl rfl)) pgs_nil))) (pss_cons (ps_if (pt_cmpR op_isN (pv 3) pe_non (nomark _)) (pss_one (ps_raise rfl (takes_of rfl rfl rfl rfl) (pmk_oex T.ox_BadProgram T.i_BadProgram_init T.ti_BadProgram_init G_bi hr T.bi_BadProgram_init .nil pass0 (by rfl) T.g_BadProgram (pa_cons (pv 2) (pa_cons pe_str pa_nil))))) pss_nil)
        (pss_cons (ps_set (i := 4) scN_layof.nd rfl (.inl rfl) (pe_meth (pv 1) T.cl_Layout T.Layout_misfit.m G_Layout_misfit hr T.Layout_misfit.b .nil pass0 (pa_cons (pe_ix ix_tup (pv 3) pe_int (fun _ _ => rfl)) pa_nil)))
        (pss_cons (ps_if (pt_cmpR op_notN (pv 4) pe_non (nomark _)) (pss_one ps_never) pss_nil)
        (pss_one (ps_expr (pe_meth (pv 1) T.cl_Layout T.Layout_take.m G_Layout_take hr T.Layout_take.b .nil pass0 (pa_cons (pe_ix ix_tup (pv 3) pe_int (fun _ _ => rfl)) pa_nil))))))))
        (pss_cons (ps_if (pt_cmpR op_ne (pe_meth0 (pv 1) T.cl_Layout T.Layout_innermost.m G_Layout_innermost hr1 T.Layout_innermost.b .nil pass0) pe_int (nomark _)) (pss_one ps_never) pss_nil)
        (pss_one (ps_ret (pv 1)))))), ?_⟩
    refine ⟨fun σ' H' => ∃ A : LAd, σ' = [some (.ref t), some (.ref A.o), none, none, none] ∧ Same H H' ∧ LayAt T.C_Layout H' A Ka.Lay.new ∧ ∀ m ∈ A.o :: A.ms, H m = none, ?_, ?_⟩
    · intro x dx hx hdx nx
      refine ⟨x, dx, rfl, upd_same, fun A H' eo frm b l => ⟨rfl, A, by rw [eo]; rfl, ?_, l, ?_⟩⟩
      · intro c o hc
        exact b c o (by rw [upd_ne (ne_of_none hc hx), upd_ne (ne_of_none hc hdx)]; exact hc) (by simp only [List.mem_singleton]; exact ne_of_none hc hx)
      · intro m hm
        rcases List.mem_cons.mp hm with z | z
        · rw [z, eo]; exact hx
        · have := frm m z
          by_cases c1 : m = x
          · rw [c1]; exact hx
          · rw [upd_ne c1] at this
            by_cases c2 : m = dx
            · rw [c2]; exact hdx
            · rw [upd_ne c2] at this; exact this
    rintro σ1 H1 ⟨A, rfl, s1, l1, fr⟩
    have fr' : ∀ m ∈ A.ms, H m = none := fun m hm => fr m (List.mem_cons_of_mem _ hm)
    have kx : k < xs.length := (List.getElem?_eq_some_iff.mp hx.none).1
    refine ⟨_, rfl, t, _, rfl, (Same.keepT s1) _ _ ht, for_it (walk_enumT (xs := xs)) (fun i σ H' => i ≤ k ∧ ∃ v2 v3 v4, σ = [some (.ref t), some (.ref A.o), v2, v3, v4] ∧ Same H H' ∧ LayAt T.C_Layout H' A (Ka.Lay.new.run (Tr.flat.take i)) ∧ Steps (Ka.Lay.new.run (Tr.flat.take i)) (Tr.flat.drop i) ∧ J (Ka.Lay.new.run (Tr.flat.take i)) i)
      ⟨Nat.zero_le _, none, none, none, rfl, s1, l1, steps_tree Tr _ 0 0 new_ok, j_new⟩ ?_ ?_ ?_⟩
    · rintro i σ H' _ ⟨_, _, _, _, _, s2, _⟩
      exact (Same.keepT s2) _ _ ht
    · rintro i x σ H' H'' hi ⟨hik, v2, v3, v4, rfl, s2, l2, st, j⟩ ⟨T0, x0, y0, rfl, hT0, rfl, ex0, ey0⟩
      cases ex0
      by_cases hk : i = k
      · subst hk
        have ey0 : xs[i]? = some y0 := ey0
        rw [hx.none] at ey0
        cases ey0
        have sT := same_new hT0 (.tup [V.int (i : Nat), .non])
        have sa := s2.trans sT
        refine ⟨T0, [.int (i : Nat), .non], rfl, SqT.of upd_same, rfl, _, _, rfl, _, _, rfl, rfl, ?_⟩
        generalize upd H' T0 (.tup [V.int (i : Nat), .non]) = H3 at sT sa ⊢
        refine ⟨_, rfl, rfl, _, rfl, iteT (B := True) ?_⟩
        refine ⟨_, rfl, by show 2 ≤ 1000; decide, fun a ha => ⟨a, (i : Nat), ("statement" : Str), rfl, by omega, by omega, by decide +kernel, upd_same, fun d hd ne => ?_⟩⟩
        have hd3 : H3 d = none := by rw [upd_ne ne] at hd; exact hd
        refine ⟨rfl, d, _, by unfold badH; rw [upd_ne ne.symm, upd_same], upd_same, hd3, q d _ ?_ (sa.free hd3) upd_same⟩
        intro c o hc
        have hc3 := sa _ _ hc
        have n1 : c ≠ d := ne_of_none hc3 hd3
        have n2 : c ≠ a := ne_of_none hc3 ha
        rw [upd_ne n1, del_ne n2]
        unfold badH
        rw [upd_ne n1, upd_ne n2, upd_ne n1, upd_ne n2]
        exact hc3
      have hi' : i < Tr.flat.length := by have := hx.le; omega
      have si : Tr.flat[i]? = some Tr.flat[i] := List.getElem?_eq_getElem hi'
      obtain ⟨a, ha1, ha2⟩ := hx.told i _ (by omega) si
      have ey0 : xs[i]? = some y0 := ey0
      rw [ha1] at ey0
      cases ey0
      have sT := same_new hT0 (.tup [V.int (i : Nat), .ref a])
      have sa := s2.trans sT
      obtain ⟨r, er⟩ := vals_word Tr.flat[i]
      have e0 : atI (Tr.flat[i]).vals 0 = some (.str (Tr.flat[i]).word) := by rw [er]; exact atI_nat (j := 0) rfl
      have tr : SqT K (upd H' T0 (.tup [V.int (i : Nat), .ref a])) a (Tr.flat[i]).vals := (Same.keepT sa) _ _ ha2
      have l3 := l2.mono sT
      refine ⟨T0, [.int (i : Nat), .ref a], rfl, SqT.of upd_same, rfl, _, _, rfl, _, _, rfl, rfl, ?_⟩
      generalize upd H' T0 (.tup [V.int (i : Nat), .ref a]) = H3 at sT sa tr l3 ⊢
      refine ⟨_, rfl, rfl, _, rfl, iteF (A := True) ?_⟩
      obtain ⟨dx, ho⟩ := l3.o
      have wf := j.wf (by omega)
      rw [List.drop_eq_getElem_cons hi'] at st
      cases st with
      | cons fit up st2 =>
        refine ⟨_, rfl, A.o, dx, _, rfl, ho, fl_no A (by decide +kernel), _, rfl, a, _, _, _, rfl, rfl, tr, e0, A, _, Tr.flat[i], rfl, l3, wf.ne, wf.lt, fit, ?_⟩
        refine ⟨_, rfl, rfl, _, rfl, iteF (A := True) ?_⟩
        refine ⟨_, rfl, A.o, dx, _, rfl, ho, fl_no A (by decide +kernel), _, rfl, a, _, _, _, rfl, rfl, tr, e0, A, _, Tr.flat[i], rfl, l3, wf, up, fun H4 b4 l4 => ?_⟩
        have er2 : Ka.Lay.new.run (Tr.flat.take (i + 1)) = (Ka.Lay.new.run (Tr.flat.take i)).take Tr.flat[i] := by rw [take_snoc si, run_append]; rfl
        refine ⟨by omega, _, _, _, rfl, but_same sa b4 fr', by rw [er2]; exact l4, by rw [er2]; exact st2, by rw [er2]; exact j.take _ up⟩
    · rintro σ H' ⟨hik, _⟩
      omega
end
end Kp
end
section
set_option linter.all false
/-! Reading lines one by one: the open scopes, what stands in each so far. Plain Lean. -/
namespace Kd_
open Ka Ka.Tree
/-- an open scope: what stands ahead of it in the scope around it; of a second part the first part too -/
inductive Fr where
  | blk (w : Bool) (l : Tree) | iff (l : Tree) | els (l a : Tree)
def Fr.pre : Fr → List Stm
  | .blk w l => l.flat ++ [st w]
  | .iff l => l.flat ++ [.iff]
  | .els l a => l.flat ++ (.iff :: (a.flat ++ [.els]))
def Fr.kind : Fr → Kd
  | .blk w _ => kd w
  | .iff _ => .iff
  | .els _ _ => .els
/-- the lines read so far -/
def flatS : List Fr → List Stm → List Stm
  | [], r => r
  | f :: fs, r => flatS fs (f.pre ++ r)
theorem flatS_app (fs : List Fr) (a b : List Stm) : flatS fs (a ++ b) = flatS fs a ++ b := by
  induction fs generalizing a with
  | nil => rfl
  | cons f fs ih => show flatS fs (f.pre ++ (a ++ b)) = flatS fs (f.pre ++ a) ++ b; rw [← List.append_assoc, ih]
/-- a line that is read; none: it does not fit -/
def step (s : List Fr × Tree) : Stm → Option (List Fr × Tree)
  | .pl l => some (s.1, s.2.app (.ln l .nil))
  | .block => some (.blk false s.2 :: s.1, .nil)
  | .whl => some (.blk true s.2 :: s.1, .nil)
  | .iff => some (.iff s.2 :: s.1, .nil)
  | .els => match s.1 with
    | .iff l :: fs => some (.els l s.2 :: fs, .nil)
    | _ => none
  | .fin => match s.1 with
    | .blk w l :: fs => some (fs, l.app (.blk w s.2 .nil))
    | .els l a :: fs => some (fs, l.app (.br a s.2 .nil))
    | _ => none
theorem flat_app (T U : Tree) : (T.app U).flat = T.flat ++ U.flat := by
  induction T with
  | nil => rfl
  | ln l r ih => show _ :: (r.app U).flat = _; rw [ih]; rfl
  | blk w b r _ ih => show st w :: (b.flat ++ .fin :: (r.app U).flat) = st w :: (b.flat ++ .fin :: r.flat) ++ U.flat; rw [ih]; simp
  | br a b r _ _ ih => show Stm.iff :: (a.flat ++ .els :: (b.flat ++ .fin :: (r.app U).flat)) = Stm.iff :: (a.flat ++ .els :: (b.flat ++ .fin :: r.flat)) ++ U.flat; rw [ih]; simp
theorem app_nil (T : Tree) : T.app .nil = T := by
  induction T with
  | nil => rfl
  | ln l r ih => show Tree.ln l (r.app .nil) = _; rw [ih]
  | blk w b r _ ih => show Tree.blk w b (r.app .nil) = _; rw [ih]
  | br a b r _ _ ih => show Tree.br a b (r.app .nil) = _; rw [ih]
theorem app_assoc (T U W : Tree) : (T.app U).app W = T.app (U.app W) := by
  induction T with
  | nil => rfl
  | ln l r ih => show Tree.ln l ((r.app U).app W) = Tree.ln l (r.app (U.app W)); rw [ih]
  | blk w b r _ ih => show Tree.blk w b ((r.app U).app W) = Tree.blk w b (r.app (U.app W)); rw [ih]
  | br a b r _ _ ih => show Tree.br a b ((r.app U).app W) = Tree.br a b (r.app (U.app W)); rw [ih]
theorem step_flat {s t : List Fr × Tree} {x : Stm} (h : step s x = some t) : flatS t.1 t.2.flat = flatS s.1 s.2.flat ++ [x] := by
  obtain ⟨fs, T⟩ := s
  cases x with
  | pl l => cases h; show flatS fs (T.app _).flat = _; rw [flat_app, flatS_app]; rfl
  | block => cases h; show flatS fs ((T.flat ++ [st false]) ++ []) = _; rw [List.append_nil, flatS_app]; rfl
  | whl => cases h; show flatS fs ((T.flat ++ [st true]) ++ []) = _; rw [List.append_nil, flatS_app]; rfl
  | iff => cases h; show flatS fs ((T.flat ++ [.iff]) ++ []) = _; rw [List.append_nil, flatS_app]
  | els =>
    cases fs with
    | nil => cases h
    | cons f fs =>
      cases f with
      | iff l =>
        cases h
        show flatS fs ((l.flat ++ (.iff :: (T.flat ++ [.els]))) ++ []) = flatS fs ((l.flat ++ [.iff]) ++ T.flat) ++ [.els]
        rw [List.append_nil, ← flatS_app]; simp
      | _ => cases h
  | fin =>
    cases fs with
    | nil => cases h
    | cons f fs =>
      cases f with
      | iff l => cases h
      | blk w l =>
        cases h
        show flatS fs (l.app (.blk w T .nil)).flat = flatS fs ((l.flat ++ [st w]) ++ T.flat) ++ [.fin]
        rw [flat_app, ← flatS_app]; simp [Tree.flat]
      | els l a =>
        cases h
        show flatS fs (l.app (.br a T .nil)).flat = flatS fs ((l.flat ++ (.iff :: (a.flat ++ [.els]))) ++ T.flat) ++ [.fin]
        rw [flat_app, ← flatS_app]; simp [Tree.flat]
/-- why a line does not fit: 0 no if, 1 no block, 2 else -/
def why (fs : List Fr) : Stm → Nat
  | .els => 0
  | _ => match fs with
    | [] => 1
    | _ => 2
/-- reading on from line k: where it stops, and why (3: it says nothing), or the open scopes -/
def parse : Nat → List Fr × Tree → List (Option Stm) → (Nat × Nat) ⊕ (List Fr × Tree)
  | _, s, [] => .inr s
  | k, _, none :: _ => .inl (k, 3)
  | k, s, some x :: r => match step s x with
    | none => .inl (k, why s.1 x)
    | some t => parse (k + 1) t r
theorem parse_no {k : Nat} {s : List Fr × Tree} {x : Stm} {r : List (Option Stm)} (h : step s x = none) : parse k s (some x :: r) = .inl (k, why s.1 x) := by
  unfold parse
  rw [h]
theorem parse_yes {k : Nat} {s t : List Fr × Tree} {x : Stm} {r : List (Option Stm)} (h : step s x = some t) : parse k s (some x :: r) = parse (k + 1) t r := by
  rw [parse, h]
theorem parse_snoc : ∀ {l : List (Option Stm)} {k : Nat} {s t : List Fr × Tree} {o : Option Stm}, parse k s l = .inr t → parse k s (l ++ [o]) = parse (k + l.length) t [o]
  | [], k, s, t, o, h => by cases h; rfl
  | none :: l, k, s, t, o, h => by cases h
  | some x :: l, k, s, t, o, h => by
    show (match step s x with | none => _ | some t => parse (k + 1) t (l ++ [o])) = _
    have h : (match step s x with | none => (.inl (k, why s.1 x) : (Nat × Nat) ⊕ (List Fr × Tree)) | some t => parse (k + 1) t l) = .inr t := h
    cases hs : step s x with
    | none => rw [hs] at h; cases h
    | some u =>
      rw [hs] at h
      show parse (k + 1) u (l ++ [o]) = _
      rw [parse_snoc h, List.length_cons, show k + 1 + l.length = k + (l.length + 1) by omega]
/-- what was read stays read -/
theorem parse_more : ∀ {l m : List (Option Stm)} {k : Nat} {s t : List Fr × Tree}, parse k s l = .inr t → parse k s (l ++ m) = parse (k + l.length) t m
  | [], m, k, s, t, h => by cases h; rfl
  | none :: l, m, k, s, t, h => by cases h
  | some x :: l, m, k, s, t, h => by
    show (match step s x with | none => _ | some t => parse (k + 1) t (l ++ m)) = _
    have h : (match step s x with | none => (.inl (k, why s.1 x) : (Nat × Nat) ⊕ (List Fr × Tree)) | some t => parse (k + 1) t l) = .inr t := h
    cases hs : step s x with
    | none => rw [hs] at h; cases h
    | some u =>
      rw [hs] at h
      show parse (k + 1) u (l ++ m) = _
      rw [parse_more h, List.length_cons, show k + 1 + l.length = k + (l.length + 1) by omega]
theorem parse_told : ∀ {l : List (Option Stm)} {k : Nat} {s t : List Fr × Tree}, parse k s l = .inr t → ∃ ss : List Stm, l = ss.map some ∧ flatS t.1 t.2.flat = flatS s.1 s.2.flat ++ ss
  | [], k, s, t, h => by cases h; exact ⟨[], rfl, by simp⟩
  | none :: l, k, s, t, h => by cases h
  | some x :: l, k, s, t, h => by
    have h : (match step s x with | none => (.inl (k, why s.1 x) : (Nat × Nat) ⊕ (List Fr × Tree)) | some t => parse (k + 1) t l) = .inr t := h
    cases hs : step s x with
    | none => rw [hs] at h; cases h
    | some u =>
      rw [hs] at h
      obtain ⟨ss, e1, e2⟩ := parse_told h
      exact ⟨x :: ss, by rw [e1]; rfl, by rw [e2, step_flat hs]; simp⟩
/-- the lines of a tree are read as this tree -/
theorem parse_tree (T : Tree) : ∀ (k : Nat) (fs : List Fr) (U : Tree) (m : List (Option Stm)), parse k (fs, U) (T.flat.map some ++ m) = parse (k + T.len) (fs, U.app T) m := by
  induction T with
  | nil => intro k fs U m; rw [app_nil]; rfl
  | ln l r ih =>
    intro k fs U m
    show parse (k + 1) (fs, U.app (.ln l .nil)) (r.flat.map some ++ m) = _
    rw [ih, app_assoc, show k + (Tree.ln l r).len = k + 1 + r.len by show k + (1 + r.len) = _; omega]; rfl
  | blk w b r ihb ihr =>
    intro k fs U m
    have e : ((Tree.blk w b r).flat.map some ++ m : List (Option Stm)) = some (st w) :: (b.flat.map some ++ (some .fin :: (r.flat.map some ++ m))) := by simp [Tree.flat]
    rw [e]
    have s1 : parse k (fs, U) (some (st w) :: (b.flat.map some ++ (some .fin :: (r.flat.map some ++ m)))) = parse (k + 1) (.blk w U :: fs, .nil) (b.flat.map some ++ (some .fin :: (r.flat.map some ++ m))) := by cases w <;> rfl
    rw [s1, ihb]
    show parse (k + 1 + b.len + 1) (fs, U.app (.blk w (Tree.nil.app b) .nil)) (r.flat.map some ++ m) = _
    rw [ihr, app_assoc, show k + (Tree.blk w b r).len = k + 1 + b.len + 1 + r.len by show k + (2 + b.len + r.len) = _; omega]; rfl
  | br a b r iha ihb ihr =>
    intro k fs U m
    have e : ((Tree.br a b r).flat.map some ++ m : List (Option Stm)) = some .iff :: (a.flat.map some ++ (some .els :: (b.flat.map some ++ (some .fin :: (r.flat.map some ++ m))))) := by simp [Tree.flat]
    rw [e]
    show parse (k + 1) (.iff U :: fs, .nil) (a.flat.map some ++ _) = _
    rw [iha]
    show parse (k + 1 + a.len + 1) (.els U (Tree.nil.app a) :: fs, .nil) (b.flat.map some ++ _) = _
    rw [ihb]
    show parse (k + 1 + a.len + 1 + b.len + 1) (fs, U.app (.br (Tree.nil.app a) (Tree.nil.app b) .nil)) (r.flat.map some ++ m) = _
    rw [ihr, app_assoc, show k + (Tree.br a b r).len = k + 1 + a.len + 1 + b.len + 1 + r.len by show k + (3 + a.len + b.len + r.len) = _; omega]; rfl
theorem flat_inj {T U : Tree} (h : T.flat = U.flat) : T = U := by
  have h1 := parse_tree T 0 [] .nil []
  have h2 := parse_tree U 0 [] .nil []
  rw [h, h2] at h1
  have h3 : (Sum.inr ([], U) : (Nat × Nat) ⊕ (List Fr × Tree)) = .inr ([], T) := h1
  injection h3 with h3
  injection h3 with _ h3
  exact h3.symm
/-- the layout where the innermost open scope begins: its state, the innermost scope -/
def base : List Fr → Lay
  | [] => Lay.new
  | f :: fs => (base fs).run f.pre
theorem run_base (fs : List Fr) (r : List Stm) : Lay.new.run (flatS fs r) = (base fs).run r := by
  induction fs generalizing r with
  | nil => rfl
  | cons f fs ih => show Lay.new.run (flatS fs (f.pre ++ r)) = ((base fs).run f.pre).run r; rw [ih, run_append]
def topK : List Fr → Kd
  | [] => .prog
  | f :: _ => f.kind
/-- what is known of the innermost open scope -/
structure Top (L : Lay) (fs : List Fr) : Prop where
  ok : L.Ok L.cur fs.length
  kind : L.kinds[L.cur]? = some (topK fs)
  zero : L.cur = 0 ↔ fs = []
  up : fs ≠ [] → ∃ p, L.parents[L.cur]? = some (some p) ∧ p < L.kinds.length
  start : L.starts[L.cur]? = some (if fs = [] then none else some (L.line - 1))
  line : L.line = (flatS fs []).length
  pos : fs ≠ [] → 0 < L.line
theorem new_top : Top Lay.new [] := ⟨new_ok, rfl, by constructor <;> intro _ <;> rfl, fun h => absurd rfl h, rfl, rfl, fun h => absurd rfl h⟩
theorem cur_of {L : Lay} {s d : Nat} (h : L.Ok s d) : L.cur = s := h.cur
theorem base_top : ∀ fs : List Fr, Top (base fs) fs
  | [] => new_top
  | f :: fs => by
    have B := base_top fs
    have key : ∀ (l : Tree), ((base fs).run l.flat).Ok (base fs).cur fs.length ∧ (base fs).run l.flat = (base fs).after l (base fs).cur fs.length := fun l => by
      have e := run_tree l _ _ _ B.ok
      exact ⟨by rw [e]; exact B.ok.after l, e⟩
    have flen : (flatS (f :: fs) []).length = (flatS fs []).length + f.pre.length := by
      show (flatS fs (f.pre ++ [])).length = _
      have e := flatS_app fs [] f.pre
      rw [List.nil_append] at e
      rw [List.append_nil, e, List.length_append]
    have lpre : ∀ {M : Lay} (l : Tree), M.line = (base fs).line + l.len → True := fun _ _ => trivial
    -- a scope of kind k begun within the scope around it
    have beg : ∀ (l : Tree) (k : Kd) (x : Stm), (∀ M : Lay, M.cur = (base fs).cur → M.take x = (M.begin_ k (base fs).cur).push M.kinds.length) → f.pre = l.flat ++ [x] → f.kind = k → Top (base (f :: fs)) (f :: fs) := fun l k x hx hp hk => by
      obtain ⟨ok1, e1⟩ := key l
      have eb : base (f :: fs) = (((base fs).run l.flat).begin_ k (base fs).cur).push ((base fs).run l.flat).kinds.length := by
        show (base fs).run f.pre = _
        rw [hp, run_append]
        show ((base fs).run l.flat).take x = _
        exact hx _ ok1.cur
      have ok2 := ok1.begun k ok1.lt ok1.dep
      rw [← eb] at ok2
      have c2 := ok2.cur
      have ll : ((base fs).run l.flat).line = (base fs).line + l.len := by rw [e1, line_after B.ok.ne]
      have l2 : (base (f :: fs)).line = (base fs).line + l.len + 1 := by rw [eb, line_snoc (L := ((base fs).run l.flat).begin_ k (base fs).cur) ok1.ne]; show ((base fs).run l.flat).line + 1 = _; rw [ll]
      refine ⟨by rw [c2]; exact ok2, ?_, ?_, fun _ => ⟨(base fs).cur, ?_, ?_⟩, ?_, ?_, fun _ => by omega⟩
      · rw [c2, eb]
        show (((base fs).run l.flat).kinds ++ [k])[((base fs).run l.flat).kinds.length]? = some f.kind
        rw [List.getElem?_append_right (Nat.le_refl _), Nat.sub_self, hk]; rfl
      · rw [c2]
        constructor
        · intro z
          have := ok1.lt
          omega
        · intro z; cases z
      · rw [c2, eb]
        show (((base fs).run l.flat).parents ++ [some (base fs).cur])[((base fs).run l.flat).kinds.length]? = _
        rw [List.getElem?_append_right (by rw [ok1.lp]; exact Nat.le_refl _), ok1.lp, Nat.sub_self]; rfl
      · rw [eb]
        show (base fs).cur < (((base fs).run l.flat).kinds ++ [k]).length
        rw [List.length_append]
        have := ok1.lt
        omega
      · rw [c2, if_neg (by intro z; cases z), l2, eb]
        show (((base fs).run l.flat).starts ++ [some ((base fs).run l.flat).line])[((base fs).run l.flat).kinds.length]? = _
        rw [List.getElem?_append_right (by rw [ok1.ls]; exact Nat.le_refl _), ok1.ls, Nat.sub_self, ll]
        show some (some _) = some (some _)
        rw [Nat.add_sub_cancel]
      · rw [l2, flen, hp, B.line, List.length_append, flat_len]; simp; omega
    cases f with
    | blk w l => exact beg l (kd w) (st w) (fun M h => by cases w <;> (simp only [st, kd, if_true, if_false, Bool.false_eq_true, Lay.take, h])) rfl rfl
    | iff l => exact beg l .iff .iff (fun M h => by simp only [Lay.take, h]) rfl rfl
    | els l a =>
      obtain ⟨ok1, e1⟩ := key l
      generalize hM : (base fs).run l.flat = M at ok1 e1
      have h1 := ok1.begun .iff ok1.lt ok1.dep
      have t1 : M.take .iff = (M.begin_ .iff (base fs).cur).push M.kinds.length := by simp only [Lay.take, ok1.cur]
      obtain ⟨s1, s2⟩ := shut_eq ok1 .iff a ok1.lt ok1.dep
      have R1 := Lay.shut_rows ok1.rows .iff a
      have hA : (M.shut .iff (base fs).cur fs.length a).Ok M.kinds.length (fs.length + 1) := by
        have h2 := h1.after a
        have e : (M.shut .iff (base fs).cur fs.length a).pts = (((M.begin_ .iff (base fs).cur).push M.kinds.length).after a M.kinds.length (fs.length + 1)).pts := by rw [← s1]; rfl
        refine ⟨R1.ne, ?_, ?_, ?_, R1.ls, R1.le, R1.lp, R1.ld⟩
        · have h3 : ((((M.begin_ .iff (base fs).cur).push M.kinds.length).after a M.kinds.length (fs.length + 1)).pts.getLast?).getD 0 = M.kinds.length := h2.cur
          rw [← e] at h3
          exact h3
        · rw [Lay.shut_len]; omega
        · show (M.depths ++ (fs.length + 1) :: _)[M.kinds.length]? = _
          rw [← ok1.ld, get_mid]
      have kE : (((M.begin_ .iff (base fs).cur).push M.kinds.length).after a M.kinds.length (fs.length + 1)).kinds = (((M.begin_ .iff (base fs).cur).push M.kinds.length).after a M.kinds.length (fs.length + 1)).end_.kinds := rfl
      have eb : base (.els l a :: fs) = ((M.shut .iff (base fs).cur fs.length a).begin_ .els (base fs).cur).push (M.shut .iff (base fs).cur fs.length a).kinds.length := by
        show (base fs).run (l.flat ++ (.iff :: (a.flat ++ [.els]))) = _
        rw [run_append, hM, run_cons, t1, run_append, run_tree a _ _ _ h1]
        show (((Lay.end_ _).begin_ .els (Lay.up _)).push (Lay.kinds _).length) = _
        rw [kE, s1, s2]
      generalize hS : M.shut .iff (base fs).cur fs.length a = S at R1 hA eb
      have ok2 := hA.begun .els R1.lt R1.dep
      rw [← eb] at ok2
      have c2 := ok2.cur
      have ll : M.line = (base fs).line + l.len := by rw [e1, line_after B.ok.ne]
      have lS : S.line = (base fs).line + l.len + 1 + a.len := by rw [← hS, Lay.shut_line _ _ _ _ ok1.ne, ll]
      have l2 : (base (.els l a :: fs)).line = (base fs).line + l.len + 1 + a.len + 1 := by rw [eb, line_snoc (L := S.begin_ .els (base fs).cur) R1.ne]; show S.line + 1 = _; rw [lS]
      refine ⟨by rw [c2]; exact ok2, ?_, ?_, fun _ => ⟨(base fs).cur, ?_, ?_⟩, ?_, ?_, fun _ => by omega⟩
      · rw [c2, eb]
        show (S.kinds ++ [Kd.els])[S.kinds.length]? = some Kd.els
        rw [List.getElem?_append_right (Nat.le_refl _), Nat.sub_self]; rfl
      · rw [c2]
        constructor
        · intro z
          have := R1.lt
          omega
        · intro z; cases z
      · rw [c2, eb]
        show (S.parents ++ [some (base fs).cur])[S.kinds.length]? = _
        rw [List.getElem?_append_right (by rw [R1.lp]; exact Nat.le_refl _), R1.lp, Nat.sub_self]; rfl
      · rw [eb]
        show (base fs).cur < (S.kinds ++ [Kd.els]).length
        rw [List.length_append]
        have := R1.lt
        omega
      · rw [c2, if_neg (by intro z; cases z), l2, eb]
        show (S.starts ++ [some S.line])[S.kinds.length]? = _
        rw [List.getElem?_append_right (by rw [R1.ls]; exact Nat.le_refl _), R1.ls, Nat.sub_self, lS]
        show some (some _) = some (some _)
        rw [Nat.add_sub_cancel]
      · rw [l2, flen, B.line]
        show _ = _ + (l.flat ++ (Stm.iff :: (a.flat ++ [Stm.els]))).length
        simp [flat_len]; omega
/-- the state behind what was read: the rows of the innermost scope stand -/
theorem state_top (fs : List Fr) (T : Tree) : ((base fs).run T.flat).Ok (base fs).cur fs.length ∧ ((base fs).run T.flat).cur = (base fs).cur ∧ (∀ (i : Nat) (x : Kd), (base fs).kinds[i]? = some x → ((base fs).run T.flat).kinds[i]? = some x) ∧ (∀ (i : Nat) (x : Option Nat), (base fs).parents[i]? = some x → ((base fs).run T.flat).parents[i]? = some x) ∧
    (∀ (i : Nat) (x : Option Nat), (base fs).starts[i]? = some x → ((base fs).run T.flat).starts[i]? = some x) ∧ (base fs).kinds.length ≤ ((base fs).run T.flat).kinds.length := by
  have B := base_top fs
  have e := run_tree T _ _ _ B.ok
  rw [e]
  refine ⟨B.ok.after T, cur_after B.ok, fun i x h => ?_, fun i x h => ?_, fun i x h => ?_, ?_⟩
  · show (_ ++ _)[i]? = _
    rw [List.getElem?_append_left (List.getElem?_eq_some_iff.mp h).1]; exact h
  · show (_ ++ _)[i]? = _
    rw [List.getElem?_append_left (List.getElem?_eq_some_iff.mp h).1]; exact h
  · show (_ ++ _)[i]? = _
    rw [List.getElem?_append_left (List.getElem?_eq_some_iff.mp h).1]; exact h
  · show (base fs).kinds.length ≤ ((base fs).kinds ++ T.kinds).length
    rw [List.length_append]; omega
end Kd_
end
section
set_option Elab.async false
set_option linter.all false
set_option maxRecDepth 100000
set_option maxHeartbeats 4000000
namespace Kp
open PySem L2

open Ka Kd_
/-! BadProgram with any line, layout_of of any lines. -/
theorem parse_more' {os : List (Option Stm)} {i : Nat} {s : List Fr × Ka.Tree} (h : parse 0 ([], .nil) (os.take i) = .inr s) (hi : i ≤ os.length) : parse 0 ([], .nil) os = parse i s (os.drop i) := by
  have e : os = os.take i ++ os.drop i := (List.take_append_drop i os).symm
  have := parse_more (m := os.drop i) h
  rw [← e, List.length_take, Nat.min_eq_left hi, Nat.zero_add] at this
  exact this
/-- the reasons -/
def reasonS : Nat → Str
  | 0 => "no if"
  | 1 => "no block"
  | 2 => "else"
  | 3 => "statement"
  | 4 => "open"
  | 5 => "lines"
  | 6 => "depth"
  | _ => "variables"
theorem reason_len (n : Nat) : (reasonS n).length ≤ 100 := by
  match n with
  | 0 => decide +kernel
  | 1 => decide +kernel
  | 2 => decide +kernel
  | 3 => decide +kernel
  | 4 => decide +kernel
  | 5 => decide +kernel
  | 6 => decide +kernel
  | n + 7 => show ("variables" : Str).length ≤ 100; decide +kernel
def Lay.mis (L : Lay) : Stm → Option Nat
  | .els => if L.kinds[L.cur]? = some .iff then none else some 0
  | .fin => if L.cur = 0 then some 1 else if L.kinds[L.cur]? = some .iff then some 2 else none
  | _ => none
def misV : Option Nat → V
  | none => .non
  | some r => .str (reasonS r)
theorem mis_step (fs : List Fr) (T : Ka.Tree) (s : Stm) : Lay.mis ((base fs).run T.flat) s = (match step (fs, T) s with | none => some (why fs s) | some _ => none) ∧
    (∀ t, step (fs, T) s = some t → Stm.isEnd s = true → ∃ p, ((base fs).run T.flat).parents[((base fs).run T.flat).cur]? = some (some p) ∧ p < ((base fs).run T.flat).kinds.length) := by
  obtain ⟨ok, ec, hk, hp, hst, hl⟩ := state_top fs T
  have B := base_top fs
  have k1 : ((base fs).run T.flat).kinds[((base fs).run T.flat).cur]? = some (topK fs) := by rw [ec]; exact hk _ _ B.kind
  have z1 : ((base fs).run T.flat).cur = 0 ↔ fs = [] := by rw [ec]; exact B.zero
  have up : fs ≠ [] → ∃ p, ((base fs).run T.flat).parents[((base fs).run T.flat).cur]? = some (some p) ∧ p < ((base fs).run T.flat).kinds.length := fun h => by
    obtain ⟨p, h1, h2⟩ := B.up h
    exact ⟨p, by rw [ec]; exact hp _ _ h1, Nat.lt_of_lt_of_le h2 hl⟩
  generalize (base fs).run T.flat = L at k1 z1 up
  cases s with
  | pl l => exact ⟨rfl, fun t _ z => by cases z⟩
  | block => exact ⟨rfl, fun t _ z => by cases z⟩
  | iff => exact ⟨rfl, fun t _ z => by cases z⟩
  | whl => exact ⟨rfl, fun t _ z => by cases z⟩
  | els =>
    unfold Lay.mis
    simp only [k1]
    cases fs with
    | nil => exact ⟨rfl, fun t h => by cases h⟩
    | cons f fs =>
      refine ⟨?_, fun t h _ => up (by intro z; cases z)⟩
      cases f with
      | blk w l => cases w <;> rfl
      | iff l => rfl
      | els l a => rfl
  | fin =>
    unfold Lay.mis
    simp only [k1]
    cases fs with
    | nil => rw [if_pos (z1.mpr rfl)]; exact ⟨rfl, fun t h => by cases h⟩
    | cons f fs =>
      rw [if_neg (fun z => by have := z1.mp z; cases this)]
      refine ⟨?_, fun t h _ => up (by intro z; cases z)⟩
      cases f with
      | blk w l => cases w <;> rfl
      | iff l => rfl
      | els l a => rfl
section
variable {X : Cx}
/-- {x}: a text, an int or None -/
def tFmtN (te : TE) : TE := fun σ H Q => te σ H fun x H1 => (∃ y : Str, x = .str y ∧ y.length ≤ sizeLine ∧ Q (.str y) H1) ∨ (∃ i : Int, x = .int i ∧ i.natAbs.log2 < 1920 ∧ Q (.str (toString i)) H1) ∨ (x = .non ∧ Q (.str ("None" : Str)) H1)
theorem pe_fmtN {e : Expr} {te : TE} {pos : Pos} (he : PE X e te) : PE X (.FormattedValue e (-1) none pos) (tFmtN te) := by
  refine ⟨fun pins s σ H Q I h => ?_⟩
  refine wpAny_FormattedValue_plain (thn (he.run pins s σ H _ I h) fun v s1 hv => ?_)
  obtain ⟨x, H1, I1, r1, q⟩ := hv
  rcases q with ⟨y, rfl, hz, q⟩ | ⟨i, rfl, hz, q⟩ | ⟨rfl, q⟩
  · obtain ⟨t, rfl⟩ := r1
    exact wpAny_formatField_str ⟨.str y, H1, I1, ⟨t, rfl⟩, q⟩ ⟨.str y, H1, I1.tok _, ⟨_, rfl⟩, q⟩ hz
  · obtain ⟨t, rfl⟩ := r1
    exact wpAny_formatField_int hz ⟨.str (toString i), H1, I1.tok _, ⟨_, rfl⟩, q⟩
  · cases r1
    exact wpAny_formatField_none ⟨.str ("None" : Str), H1, I1.tok _, ⟨_, rfl⟩, q⟩
end
section
variable {P : Program} {w : World} {K : PySem.W.Frag} {mg : Str → Option Value} {base : Heap}
def xdB (k : Option Nat) (r : Str) : HO := .xd [(("reason" : Str), .str r), (("line" : Str), opV k)]
def badHV (H : Hp) (a d C : Addr) (k : V) (r : Str) : Hp := upd (upd (upd H d (exd d [(("line" : Str), k)])) a (exo a C (some d))) d (exd d [(("reason" : Str), .str r), (("line" : Str), k)])
def spBIA (C : Addr) : Sp := fun vs H Q _ => ∃ (a : Addr) (k : Option Nat) (r : Str), vs = [.ref a, opV k, .str r] ∧ (∀ n, k = some n → n ≤ 1000) ∧ r.length ≤ 100 ∧ H a = some (exo a C none) ∧ ∀ d, H d = none → d ≠ a → Q .non (badHV H a d C (opV k) r)
theorem ok_biA (hP : P = PySem.Challenge.pw_scopefree_k02_what_does_not_fit) (T : Tx K w mg) : FnOk P w K mg base CX0 1 T.f_BadProgram_init T.d_BadProgram_init ["self", "line", "reason"] (spBIA T.C_BadProgram) := by
  subst hP
  refine fn_super T.su_BadProgram (scN_bi _ _) (fun vs H Q E h => ?_) (fun A outer s s1 H vs Q E hr h I => ?_)
  · obtain ⟨a, k, r, rfl, _⟩ := h
    rfl
  · obtain ⟨a, k, r, rfl, kb, rl, ha, q⟩ := h
    refine wat_body (X := NdefX.ncx CX0 PySem.Challenge.pw_scopefree_k02_what_does_not_fit w K mg base ["self", "line", "reason", "__class__"] (nfB s_BadProgram_init "__init__" "BadProgram.__init__" T.cc_BadProgram T.c_BadProgram_init) T.f_BadProgram_init A outer s H E) (i := 0) T.su_BadProgram T.ox_BadProgram rfl rfl (by show (defScope s_BadProgram_init).names.lookup _ = _; decide +kernel) (by show (defScope s_BadProgram_init).names.lookup _ = _; decide +kernel) (by show List.lookup _ [(("__class__" : Str), T.cc_BadProgram)] = _; rw [List.lookup_cons, beq_self_eq_true]) rfl (by show (defScope s_BadProgram_init).names.lookup _ = _; decide +kernel) rfl rfl
      (pa_cons (pe_joined (.cons pe_str (.cons (pe_fmt (pv 2)) (.cons pe_str (.cons (pe_fmtN (pv 1)) .nil))))) pa_nil)
      (pss_cons (ps_ost (pv 0) (pv 1)) (pss_one (ps_ost (pv 0) (pv 2)))) I ha ?_ rfl
    have le : ∀ {n : Nat}, n ≤ 900 → n ≤ sizeLine := fun h => small30 (by omega)
    have z0 : Str.empty.length = 0 := rfl
    have z1 : ("not a program: " : Str).length = 15 := by decide +kernel
    have z2 : (", line " : Str).length = 7 := by decide +kernel
    have z3 : ("None" : Str).length = 4 := by decide +kernel
    refine ⟨_, rfl, le (by simp only [Str.length_append, z0, z1]; omega), _, rfl, .inl ⟨_, rfl, le (by omega), _, rfl, le (by simp only [Str.length_append, z0, z1]; omega), _, rfl, le (by simp only [Str.length_append, z0, z1, z2]; omega), ?_⟩⟩
    have tail : ∀ y : Str, y.length ≤ 10 → ∃ z : Str, V.str y = .str z ∧ (((Str.empty ++ ("not a program: " : Str)) ++ r ++ (", line " : Str)) ++ z).length ≤ sizeLine := fun y hy => ⟨y, rfl, le (by simp only [Str.length_append, z0, z1, z2]; omega)⟩
    refine ⟨opV k, rfl, ?_⟩
    have fin : tSeq (tOst K ("line" : Str) (tVar 0) (tVar 1)) (tOst K ("reason" : Str) (tVar 0) (tVar 2)) { nx := fun _ H' => Q .non H', rt := Q } (NdefX.startF ["self", "line", "reason", "__class__"] [V.ref a, opV k, V.str r] [none]) H := by
      refine ⟨_, rfl, _, rfl, a, T.C_BadProgram, rfl, T.ox_BadProgram, T.na_BadProgram_line, .inl ⟨ha, fun d hd ne => ?_⟩⟩
      have nda : a ≠ d := fun z => ne z.symm
      refine ⟨_, rfl, _, rfl, a, T.C_BadProgram, rfl, T.ox_BadProgram, T.na_BadProgram_reason, .inr ⟨d, _, upd_same, by rw [upd_ne ne]; exact upd_same, by show 1 ≤ 900; decide, ?_⟩⟩
      exact q d hd ne
    cases k with
    | none => exact .inr (.inr ⟨rfl, _, rfl, le (by simp only [Str.length_append, z0, z1, z2, z3]; omega), by show 1 ≤ 1000; decide, ha, fin⟩)
    | some n =>
      have nb := kb n rfl
      have zk := small_txt2 (z := (n : Int)) (by omega) (by omega)
      exact .inr (.inl ⟨_, rfl, small_log2 (by omega) (by omega), _, rfl, le (by simp only [Str.length_append, z0, z1, z2]; omega), by show 1 ≤ 1000; decide, ha, fin⟩)
/-- what stands behind BadProgram(k, r) -/
theorem raise_end {H H3 : Hp} {C a : Addr} {k : Option Nat} {r : Str} {E : XK} {Z : XK} (sa : Same H H3) (ha : H3 a = none) (kb : ∀ n, k = some n → n ≤ 1000) (hr : r.length ≤ 100) (q : ∀ d H', Same H H' → H d = none → H' d = some (xdB k r) → E (.ref C) (some d) H') :
    spBIA C [.ref a, opV k, .str r] (upd H3 a (exo a C none)) (fun v H2 => v = .non ∧ ∃ (d : Addr) (fs : List (Str × V)), H2 a = some (exo a C (some d)) ∧ H2 d = some (exd d fs) ∧ H3 d = none ∧ E (.ref C) (some d) (upd (del H2 a) d (.xd fs))) Z := by
  refine ⟨a, k, r, rfl, kb, hr, upd_same, fun d hd ne => ?_⟩
  have hd3 : H3 d = none := by rw [upd_ne ne] at hd; exact hd
  refine ⟨rfl, d, _, by unfold badHV; rw [upd_ne ne.symm, upd_same], upd_same, hd3, q d _ ?_ (sa.free hd3) upd_same⟩
  intro c o hc
  have hc3 := sa _ _ hc
  have n1 : c ≠ d := ne_of_none hc3 hd3
  have n2 : c ≠ a := ne_of_none hc3 ha
  rw [upd_ne n1, del_ne n2]
  unfold badHV
  rw [upd_ne n1, upd_ne n2, upd_ne n1, upd_ne n2]
  exact hc3
def spMisA (C : Addr) : Sp := fun vs H Q _ => ∃ (A : LAd) (L : Lay) (s : Stm), vs = [.ref A.o, .str s.word] ∧ LayAt C H A L ∧ L.pts ≠ [] ∧ L.cur < L.kinds.length ∧ Q (misV (Lay.mis L s)) H
theorem ok_misA (T : Tx K w mg) : FnOk P w K mg base CX0 2 T.f_Layout_misfit T.d_Layout_misfit ["self", "word"] (spMisA T.C_Layout) := by
  have G_Layout_innermost := ok_inner (P := P) (base := base) T
  refine T.Layout_misfit.F.ok scN_misfit (fun vs H Q E h => ?_) (fun cdv A outer s H vs Q E hr h => ?_)
  · obtain ⟨A, L, s, rfl, _⟩ := h
    rfl
  · obtain ⟨A, L, st, rfl, h, ne, lt, q⟩ := h
    obtain ⟨dx, ho⟩ := h.o
    refine ⟨_, (pss_cons (ps_set (i := 2) scN_misfit.nd rfl (.inl rfl) (pe_meth0 (pv 0) T.cl_Layout T.Layout_innermost.m G_Layout_innermost hr T.Layout_innermost.b .nil pass0))
        (pss_cons (ps_if (PW.pt (pw_and (pt_cmpR op_eq (pv 1) pe_str (nomark _)) (pw_and1 (pt_cmpR op_ne (pe_ix ix_list (pe_fld (pv 0) rfl) (pv 2) (fun _ _ => rfl)) pe_str (nomark _))))) (pss_one (ps_ret pe_str)) pss_nil)
        (pss_cons (ps_if (PW.pt (pw_and (pt_cmpR op_eq (pv 1) pe_str (nomark _)) (pw_and1 (pt_cmpR op_eq (pv 2) pe_int (nomark _))))) (pss_one (ps_ret pe_str)) pss_nil)
        (pss_cons (ps_if (PW.pt (pw_and (pt_cmpR op_eq (pv 1) pe_str (nomark _)) (pw_and1 (pt_cmpR op_eq (pe_ix ix_list (pe_fld (pv 0) rfl) (pv 2) (fun _ _ => rfl)) pe_str (nomark _))))) (pss_one (ps_ret pe_str)) pss_nil)
        (pss_one (ps_ret pe_non)))))), ?_⟩
    refine ⟨_, rfl, A.o, dx, _, rfl, ho, fl_no A (by decide +kernel), A, L, rfl, h, ne, ?_⟩
    have hk := h.k
    unfold kdL at hk
    have ek : L.kinds[L.cur]? = some L.kinds[L.cur] := List.getElem?_eq_getElem lt
    have ka : atI (L.kinds.map fun k => V.str k.pw) (L.cur : Nat) = some (.str (L.kinds[L.cur]).pw) := atI_nat (by rw [List.getElem?_map, ek]; rfl)
    have dk : decide (L.kinds[L.cur] = .iff) = true ↔ L.kinds[L.cur]? = some .iff := by rw [ek]; constructor <;> intro z <;> simpa using z
    refine ⟨_, rfl, rfl, _, rfl, ?_⟩
    rw [word_else]
    cases st with
    | els =>
      refine iteT (B := True) ?_
      refine ⟨_, rfl, A.o, _, dx, _, _, rfl, ho, T.cl_Layout, T.n_Layout_kinds, fl_at A 0 rfl rfl, _, rfl, A.k, _, _, _, rfl, rfl, SqL.of hk, ka, rfl, _, rfl, ?_⟩
      rw [pw_if]
      cases hd : decide (L.kinds[L.cur] = .iff) with
      | false =>
        refine iteT (B := True) ?_
        have e : Lay.mis L .els = some 0 := by unfold Lay.mis; exact if_neg fun z => by rw [dk.mpr z] at hd; cases hd
        rw [e] at q
        exact q
      | true =>
        refine iteF (A := True) ?_
        refine ⟨_, rfl, rfl, _, rfl, ?_⟩
        refine iteF (A := True) ?_
        refine ⟨_, rfl, rfl, _, rfl, ?_⟩
        refine iteF (A := True) ?_
        have e : Lay.mis L .els = none := by unfold Lay.mis; exact if_pos (dk.mp hd)
        rw [e] at q
        exact q
    | fin =>
      refine iteF (A := True) ?_
      refine ⟨_, rfl, rfl, _, rfl, ?_⟩
      refine iteT (B := True) ?_
      refine ⟨_, rfl, rfl, _, rfl, ?_⟩
      by_cases h0 : L.cur = 0
      · rw [show decide (V.int (L.cur : Nat) = V.int 0) = true from decide_eq_true (by rw [h0]; rfl)]
        refine iteT (B := True) ?_
        have e : Lay.mis L .fin = some 1 := by unfold Lay.mis; exact if_pos h0
        rw [e] at q
        exact q
      rw [show decide (V.int (L.cur : Nat) = V.int 0) = false from decide_eq_false (by intro z; injection z with z; exact h0 (by omega))]
      refine iteF (A := True) ?_
      refine ⟨_, rfl, rfl, _, rfl, ?_⟩
      refine iteT (B := True) ?_
      refine ⟨_, rfl, A.o, _, dx, _, _, rfl, ho, T.cl_Layout, T.n_Layout_kinds, fl_at A 0 rfl rfl, _, rfl, A.k, _, _, _, rfl, rfl, SqL.of hk, ka, rfl, _, rfl, ?_⟩
      rw [pw_if]
      cases hd : decide (L.kinds[L.cur] = .iff) with
      | true =>
        refine iteT (B := True) ?_
        have e : Lay.mis L .fin = some 2 := by unfold Lay.mis; rw [if_neg h0]; exact if_pos (dk.mp hd)
        rw [e] at q
        exact q
      | false =>
        refine iteF (A := True) ?_
        have e : Lay.mis L .fin = none := by unfold Lay.mis; rw [if_neg h0]; exact if_neg fun z => by rw [dk.mpr z] at hd; cases hd
        rw [e] at q
        exact q
    | pl l =>
      refine iteF (A := True) ?_
      refine ⟨_, rfl, rfl, _, rfl, ?_⟩
      rw [word_end]
      refine iteF (A := True) ?_
      refine ⟨_, rfl, rfl, _, rfl, ?_⟩
      rw [word_end]
      refine iteF (A := True) ?_
      exact q
    | block =>
      refine iteF (A := True) ?_
      refine ⟨_, rfl, rfl, _, rfl, ?_⟩
      rw [word_end]
      refine iteF (A := True) ?_
      refine ⟨_, rfl, rfl, _, rfl, ?_⟩
      rw [word_end]
      refine iteF (A := True) ?_
      exact q
    | iff =>
      refine iteF (A := True) ?_
      refine ⟨_, rfl, rfl, _, rfl, ?_⟩
      rw [word_end]
      refine iteF (A := True) ?_
      refine ⟨_, rfl, rfl, _, rfl, ?_⟩
      rw [word_end]
      refine iteF (A := True) ?_
      exact q
    | whl =>
      refine iteF (A := True) ?_
      refine ⟨_, rfl, rfl, _, rfl, ?_⟩
      rw [word_end]
      refine iteF (A := True) ?_
      refine ⟨_, rfl, rfl, _, rfl, ?_⟩
      rw [word_end]
      refine iteF (A := True) ?_
      exact q
/-- what the lines say, in order -/
structure ToldA (K : PySem.W.Frag) (H : Hp) (xs : List V) (os : List (Option Stm)) : Prop where
  len : xs.length = os.length
  no : ∀ i : Nat, os[i]? = some none → xs[i]? = some V.non
  yes : ∀ (i : Nat) (s : Stm), os[i]? = some (some s) → ∃ a, xs[i]? = some (.ref a) ∧ SqT K H a s.vals
theorem ToldA.keep {K : PySem.W.Frag} {H H' : Hp} {xs : List V} {os : List (Option Stm)} (h : ToldA K H xs os) (k : KeepT K H H') : ToldA K H' xs os := ⟨h.len, h.no, fun i s hs => by obtain ⟨a, h1, h2⟩ := h.yes i s hs; exact ⟨a, h1, k _ _ h2⟩⟩
theorem ToldA.plain {K : PySem.W.Frag} {H : Hp} {xs : List V} {ss : List Stm} (h : ToldA K H xs (ss.map some)) : ToldsAt K H xs ss := ⟨by rw [h.len, List.length_map], fun i s hs => h.yes i s (by rw [List.getElem?_map, hs]; rfl)⟩
/-- how the layout ends: the line and why not, or the tree -/
def outL (os : List (Option Stm)) : (Nat × Nat) ⊕ Ka.Tree := match parse 0 ([], .nil) os with
  | .inl e => .inl e
  | .inr ([], T) => .inr T
  | .inr (f :: fs, _) => .inl ((flatS (f :: fs) []).length - 1, 4)
def outP (CB : Addr) (H : Hp) (E : XK) (ok : Ka.Tree → Prop) : (Nat × Nat) ⊕ Ka.Tree → Prop
  | .inr T => ok T
  | .inl (k, r) => ∀ (d : Addr) (H' : Hp), Same H H' → H d = none → H' d = some (xdB (some k) (reasonS r)) → E (.ref CB) (some d) H'
def spLayA (K : PySem.W.Frag) (C CB : Addr) : Sp := fun vs H Q E => ∃ (t : Addr) (xs : List V) (os : List (Option Stm)), vs = [.ref t] ∧ SqT K H t xs ∧ ToldA K H xs os ∧ os.length ≤ 400 ∧
  outP CB H E (fun T => ∀ (A : LAd) (H' : Hp), Same H H' → (∀ m ∈ A.o :: A.ms, H m = none) → LayAt C H' A (fin_ T) → Q (.ref A.o) H') (outL os)
theorem ok_layA (hP : P = PySem.Challenge.pw_scopefree_k02_what_does_not_fit) (T : Tx K w mg) : FnOk P w K mg base (L2.CX P w) 3 T.f_layout_of T.d_layout_of ["statements"] (spLayA K T.C_Layout T.C_BadProgram) := by
  have G_Layout_init := ok_linit (P := P) (base := base) T
  have G_Layout_innermost := ok_inner (P := P) (base := base) T
  have G_Layout_misfit := ok_misA (P := P) (base := base) T
  have G_Layout_take := ok_take2 (P := P) (base := base) T
  have G_bi := ok_biA (P := P) (base := base) hP T
  refine T.layout_of.F.okX scN_layof (fun vs H Q E h => ?_) (fun cdv A outer s H vs Q E hr h => ?_)
  · obtain ⟨t, xs, os, rfl, _⟩ := h
    rfl
  · obtain ⟨t, xs, os, rfl, ht, hx, ol, q⟩ := h
    have hr1 := hr.mono (by decide : 1 ≤ 2)
    refine ⟨_, (Evl.pss_cut (ps_set (i := 1) scN_layof.nd rfl (.inl rfl) (pe_make0 T.Layout_init.m G_Layout_init hr (by rfl) T.g_Layout T.Layout_init.b .nil pass0))
        (pss_cons (ps_for PassesOwn.leaving rfl (pi_enumT (by rfl) T.B.enumerate (pa_cons (pv 0) pa_nil)) (pg_tup rfl (pgs_cons (pg_name (i := 2) scN_layof.nd rfl (.inl rfl)) (pgs_cons (pg_name (i := 3) scN_layof.nd rfl (.inl rfl)) pgs_nil))) (pss_cons (ps_if (pt_cmpR op_isN (pv 3) pe_non (nomark _)) (pss_one (ps_raise rfl (takes_of rfl rfl rfl rfl) (pmk_oex T.ox_BadProgram T.i_BadProgram_init T.ti_BadProgram_init G_bi hr T.bi_BadProgram_init .nil pass0 (by rfl) T.g_BadProgram (pa_cons (pv 2) (pa_cons pe_str pa_nil))))) pss_nil)
        (pss_cons (ps_set (i := 4) scN_layof.nd rfl (.inl rfl) (pe_meth (pv 1) T.cl_Layout T.Layout_misfit.m G_Layout_misfit hr T.Layout_misfit.b .nil pass0 (pa_cons (pe_ix ix_tup (pv 3) pe_int (fun _ _ => rfl)) pa_nil)))
        (pss_cons (ps_if (pt_cmpR op_notN (pv 4) pe_non (nomark _)) (pss_one (ps_raise rfl (takes_of rfl rfl rfl rfl) (pmk_oex T.ox_BadProgram T.i_BadProgram_init T.ti_BadProgram_init G_bi hr T.bi_BadProgram_init .nil pass0 (by rfl) T.g_BadProgram (pa_cons (pv 2) (pa_cons (pv 4) pa_nil))))) pss_nil)
        (pss_one (ps_expr (pe_meth (pv 1) T.cl_Layout T.Layout_take.m G_Layout_take hr T.Layout_take.b .nil pass0 (pa_cons (pe_ix ix_tup (pv 3) pe_int (fun _ _ => rfl)) pa_nil))))))))
        (pss_cons (ps_if (pt_cmpR op_ne (pe_meth0 (pv 1) T.cl_Layout T.Layout_innermost.m G_Layout_innermost hr1 T.Layout_innermost.b .nil pass0) pe_int (nomark _)) (pss_one (ps_raise rfl (takes_of rfl rfl rfl rfl) (pmk_oex T.ox_BadProgram T.i_BadProgram_init T.ti_BadProgram_init G_bi hr T.bi_BadProgram_init .nil pass0 (by rfl) T.g_BadProgram (pa_cons (pe_ix ix_list (pe_fld (pv 1) rfl) (pe_meth0 (pv 1) T.cl_Layout T.Layout_innermost.m G_Layout_innermost hr1 T.Layout_innermost.b .nil pass0) (fun _ _ => rfl)) (pa_cons pe_str pa_nil))))) pss_nil)
        (pss_one (ps_ret (pv 1)))))), ?_⟩
    refine ⟨fun σ' H' => ∃ A : LAd, σ' = [some (.ref t), some (.ref A.o), none, none, none] ∧ Same H H' ∧ LayAt T.C_Layout H' A Ka.Lay.new ∧ ∀ m ∈ A.o :: A.ms, H m = none, ?_, ?_⟩
    · intro x dx hx hdx nx
      refine ⟨x, dx, rfl, upd_same, fun A H' eo frm b l => ⟨rfl, A, by rw [eo]; rfl, ?_, l, ?_⟩⟩
      · intro c o hc
        exact b c o (by rw [upd_ne (ne_of_none hc hx), upd_ne (ne_of_none hc hdx)]; exact hc) (by simp only [List.mem_singleton]; exact ne_of_none hc hx)
      · intro m hm
        rcases List.mem_cons.mp hm with z | z
        · rw [z, eo]; exact hx
        · have := frm m z
          by_cases c1 : m = x
          · rw [c1]; exact hx
          · rw [upd_ne c1] at this
            by_cases c2 : m = dx
            · rw [c2]; exact hdx
            · rw [upd_ne c2] at this; exact this
    rintro σ1 H1 ⟨A, rfl, s1, l1, fr⟩
    have fr' : ∀ m ∈ A.ms, H m = none := fun m hm => fr m (List.mem_cons_of_mem _ hm)
    have xl := hx.len
    refine ⟨_, rfl, t, _, rfl, (Same.keepT s1) _ _ ht, for_it (walk_enumT (xs := xs)) (fun i σ H' => ∃ v2 v3 v4 fs U, σ = [some (.ref t), some (.ref A.o), v2, v3, v4] ∧ Same H H' ∧ parse 0 ([], .nil) (os.take i) = .inr (fs, U) ∧ LayAt T.C_Layout H' A ((Kd_.base fs).run U.flat) ∧ J ((Kd_.base fs).run U.flat) i)
      ⟨none, none, none, [], .nil, rfl, s1, rfl, l1, j_new⟩ ?_ ?_ ?_⟩
    · rintro i σ H' _ ⟨_, _, _, _, _, _, s2, _⟩
      exact (Same.keepT s2) _ _ ht
    · rintro i x σ H' H'' hi ⟨v2, v3, v4, fs, U, rfl, s2, pr, l2, j⟩ ⟨T0, x0, y0, rfl, hT0, rfl, ex0, ey0⟩
      cases ex0
      have hio : i < os.length := by omega
      have ey0 : xs[i]? = some y0 := ey0
      have pm := parse_more' pr (by omega)
      rw [List.drop_eq_getElem_cons hio] at pm
      have eo : os[i]? = some os[i] := List.getElem?_eq_getElem hio
      cases ho1 : os[i] with
      | none =>
        rw [ho1] at pm eo
        rw [hx.no i eo] at ey0
        cases ey0
        have sT := same_new hT0 (.tup [V.int (i : Nat), .non])
        have sa := s2.trans sT
        refine ⟨T0, [.int (i : Nat), .non], rfl, SqT.of upd_same, rfl, _, _, rfl, _, _, rfl, rfl, ?_⟩
        generalize upd H' T0 (.tup [V.int (i : Nat), .non]) = H3 at sT sa ⊢
        refine ⟨_, rfl, rfl, _, rfl, iteT (B := True) ?_⟩
        have eO : outL os = .inl (i, 3) := by unfold outL; rw [pm]; rfl
        rw [eO] at q
        exact ⟨_, rfl, by show 2 ≤ 1000; decide, fun a ha => raise_end (k := some i) sa ha (fun n h => by cases h; omega) (reason_len 3) q⟩
      | some st =>
        rw [ho1] at pm eo
        obtain ⟨a, ha1, ha2⟩ := hx.yes i _ eo
        rw [ha1] at ey0
        cases ey0
        have sT := same_new hT0 (.tup [V.int (i : Nat), .ref a])
        have sa := s2.trans sT
        obtain ⟨r, er⟩ := vals_word st
        have e0 : atI st.vals 0 = some (.str st.word) := by rw [er]; exact atI_nat (j := 0) rfl
        have tr : SqT K (upd H' T0 (.tup [V.int (i : Nat), .ref a])) a st.vals := (Same.keepT sa) _ _ ha2
        have l3 := l2.mono sT
        refine ⟨T0, [.int (i : Nat), .ref a], rfl, SqT.of upd_same, rfl, _, _, rfl, _, _, rfl, rfl, ?_⟩
        generalize upd H' T0 (.tup [V.int (i : Nat), .ref a]) = H3 at sT sa tr l3 ⊢
        refine ⟨_, rfl, rfl, _, rfl, iteF (A := True) ?_⟩
        obtain ⟨dx, ho⟩ := l3.o
        have wf := j.wf (by omega)
        obtain ⟨ms, up⟩ := mis_step fs U st
        refine ⟨_, rfl, A.o, dx, _, rfl, ho, fl_no A (by decide +kernel), _, rfl, a, _, _, _, rfl, rfl, tr, e0, A, _, st, rfl, l3, wf.ne, wf.lt, ?_⟩
        cases hs : step (fs, U) st with
        | none =>
          rw [hs] at ms
          rw [ms]
          refine ⟨_, rfl, rfl, _, rfl, iteT (B := True) ?_⟩
          have eO : outL os = .inl (i, why fs st) := by
            unfold outL
            rw [pm, parse_no hs]
          rw [eO] at q
          exact ⟨_, rfl, _, rfl, by show 2 ≤ 1000; decide, fun a ha => raise_end (k := some i) sa ha (fun n h => by cases h; omega) (reason_len _) q⟩
        | some t1 =>
          rw [hs] at ms
          rw [ms]
          refine ⟨_, rfl, rfl, _, rfl, iteF (A := True) ?_⟩
          have up1 := up t1 hs
          refine ⟨_, rfl, A.o, dx, _, rfl, ho, fl_no A (by decide +kernel), _, rfl, a, _, _, _, rfl, rfl, tr, e0, A, _, st, rfl, l3, wf, up1, fun H4 b4 l4 => ?_⟩
          have er2 : (Kd_.base t1.1).run t1.2.flat = ((Kd_.base fs).run U.flat).take st := by
            rw [← run_base, step_flat hs, run_append, run_base]; rfl
          refine ⟨_, _, _, t1.1, t1.2, rfl, but_same sa b4 fr', ?_, by rw [er2]; exact l4, by rw [er2]; exact j.take _ up1⟩
          rw [take_snoc eo, parse_snoc pr]
          rw [parse_yes hs]; rfl
    · rintro σ H' ⟨v2, v3, v4, fs, U, rfl, s2, pr, l2, j⟩
      rw [xl, List.take_length] at pr
      have wf := j.wf (by omega)
      obtain ⟨dx, ho⟩ := l2.o
      obtain ⟨ok, ec, hk, hp, hst, hl⟩ := state_top fs U
      have B := base_top fs
      refine ⟨_, rfl, A.o, dx, _, rfl, ho, fl_no A (by decide +kernel), A, _, rfl, l2, wf.ne, rfl, _, rfl, ?_⟩
      cases fs with
      | nil =>
        rw [ec, B.zero.mpr rfl]
        refine iteF (A := True) ?_
        have eO : outL os = .inr U := by unfold outL; rw [pr]
        rw [eO] at q
        have eF : (Kd_.base []).run U.flat = fin_ U := run_fin U
        rw [eF] at l2
        exact ⟨_, rfl, q A H' s2 fr l2⟩
      | cons f fs =>
        have nz : ((Kd_.base (f :: fs)).run U.flat).cur ≠ 0 := fun z => by rw [ec] at z; have := B.zero.mp z; cases this
        rw [show decide (V.int (((Kd_.base (f :: fs)).run U.flat).cur : Nat) = V.int 0) = false from decide_eq_false (by intro z; injection z with z; exact nz (by omega))]
        refine iteT (B := True) ?_
        have eO : outL os = .inl ((flatS (f :: fs) []).length - 1, 4) := by unfold outL; rw [pr]
        rw [eO] at q
        have hs := hst _ _ B.start
        rw [if_neg (by intro z; cases z), B.line] at hs
        rw [← ec] at hs
        have lenb : (flatS (f :: fs) []).length ≤ os.length := by
          obtain ⟨ss, e1, e2⟩ := parse_told pr
          have e2 : flatS (f :: fs) U.flat = ss := by simpa [flatS, Ka.Tree.flat] using e2
          have e3 : flatS (f :: fs) U.flat = flatS (f :: fs) [] ++ U.flat := by have := flatS_app (f :: fs) [] U.flat; rwa [List.nil_append] at this
          rw [e1, List.length_map, ← e2, e3, List.length_append]; omega
        refine ⟨_, rfl, A.o, _, dx, _, _, rfl, ho, T.cl_Layout, T.n_Layout_starts, fl_at A 1 rfl rfl, _, rfl, A.o, dx, _, rfl, ho, fl_no A (by decide +kernel), A, _, rfl, l2, wf.ne, A.s, _, _, _, rfl, rfl, SqL.of l2.s, op_at hs, by show 2 ≤ 1000; decide, fun a ha => raise_end (k := some ((flatS (f :: fs) []).length - 1)) s2 ha (fun n h => by cases h; omega) (reason_len 4) q⟩
end
end Kp
end
section
set_option Elab.async false
set_option linter.all false
set_option maxRecDepth 100000
set_option maxHeartbeats 4000000
namespace Kp
open PySem L2

open Ka Kd_
section
variable {P : Program} {w : World} {K : PySem.W.Frag} {mg : Str → Option Value} {base : Heap}
/-- which limit is broken -/
def limOf (n : Nat) (ds : List Nat) (m : Nat) : Option Nat := if 80 < n then some 5 else if ds.any (fun x => decide (5 < x)) = true then some 6 else if 6 < m then some 7 else none
def limP (CB : Addr) (H : Hp) (E : XK) (ok : Prop) : Option Nat → Prop
  | none => ok
  | some r => ∀ (d : Addr) (H' : Hp), Same H H' → H d = none → H' d = some (xdB none (reasonS r)) → E (.ref CB) (some d) H'
def spLimA (K : PySem.W.Frag) (CB : Addr) : Sp := fun vs H Q E => ∃ (l d : Addr) (z : Str) (xs : List V) (ds : List Nat), vs = [.ref l, .ref d, .str z] ∧ SqT K H l xs ∧ xs.length ≤ 400 ∧ H d = some (ntL ds) ∧ ds ≠ [] ∧ z.length ≤ 100 ∧ limP CB H E (Q .non H) (limOf xs.length ds z.length)
theorem ok_limA (hP : P = PySem.Challenge.pw_scopefree_k02_what_does_not_fit) (T : Tx K w mg) : FnOk P w K mg base (L2.CX P w) 3 T.f_check_limits T.d_check_limits ["lines", "depths", "variables"] (spLimA K T.C_BadProgram) := by
  have G_bi := ok_biA (P := P) (base := base) hP T
  refine T.check_limits.F.okX scN_lim (fun vs H Q E h => ?_) (fun cdv A outer s H vs Q E hr h => ?_)
  · obtain ⟨l, d, z, xs, ds, rfl, _⟩ := h
    rfl
  · obtain ⟨l, d, z, xs, ds, rfl, hl, hx, hd, hne, hz, q⟩ := h
    refine ⟨_, (pss_cons (ps_if (pt_cmpR op_gt (pe_callB call_len_seq (by rfl) T.B.len PySem.boot_len (pa_cons (pv 0) pa_nil)) (pe_glob (v := .int 80) rfl T.k_MOST_LINES.choose_spec ⟨_, rfl⟩) (nomark _)) (pss_one (ps_raise rfl (takes_of rfl rfl rfl rfl) (pmk_oex T.ox_BadProgram T.i_BadProgram_init T.ti_BadProgram_init G_bi hr T.bi_BadProgram_init .nil pass0 (by rfl) T.g_BadProgram (pa_cons pe_non (pa_cons pe_str pa_nil))))) pss_nil)
        (pss_cons (ps_if (pt_cmpR op_gt (pe_callB (cr_max rfl) (by rfl) T.B.max (by decide +kernel) (pa_cons (pv 1) pa_nil)) (pe_glob (v := .int 5) rfl T.k_MOST_DEPTH.choose_spec ⟨_, rfl⟩) (nomark _)) (pss_one (ps_raise rfl (takes_of rfl rfl rfl rfl) (pmk_oex T.ox_BadProgram T.i_BadProgram_init T.ti_BadProgram_init G_bi hr T.bi_BadProgram_init .nil pass0 (by rfl) T.g_BadProgram (pa_cons pe_non (pa_cons pe_str pa_nil))))) pss_nil)
        (pss_one (ps_if (pt_cmpR op_gt (pe_callB call_len_str (by rfl) T.B.len PySem.boot_len (pa_cons (pv 2) pa_nil)) (pe_glob (v := .int 6) rfl T.k_MOST_VARIABLES.choose_spec ⟨_, rfl⟩) (nomark _)) (pss_one (ps_raise rfl (takes_of rfl rfl rfl rfl) (pmk_oex T.ox_BadProgram T.i_BadProgram_init T.ti_BadProgram_init G_bi hr T.bi_BadProgram_init .nil pass0 (by rfl) T.g_BadProgram (pa_cons pe_non (pa_cons pe_str pa_nil))))) pss_nil)))), ?_⟩
    refine ⟨_, rfl, l, _, rfl, .inr hl, _, _, rfl, rfl, _, rfl, ?_⟩
    by_cases h1 : 80 < xs.length
    · rw [decide_eq_true (by omega)]
      refine iteT (B := True) ?_
      have e : limOf xs.length ds z.length = some 5 := by unfold limOf; rw [if_pos h1]
      rw [e] at q
      exact ⟨by show 2 ≤ 1000; decide, fun a ha => raise_end (k := none) (Same.refl _) ha (fun n h => by cases h) (reason_len 5) q⟩
    rw [decide_eq_false (by omega)]
    refine iteF (A := True) ?_
    have hd2 : SqL K H d ((ds.map fun n => ((n : Nat) : Int)).map V.int) := by
      have := SqL.of (K := K) hd
      rw [List.map_map]; exact this
    refine ⟨_, rfl, d, _, rfl, hd2, ?_, fun m hm hmax => ?_⟩
    · rw [List.length_map]; exact List.length_pos_iff.mpr hne
    obtain ⟨x, hx1, rfl⟩ := List.mem_map.mp hm
    refine ⟨_, _, rfl, rfl, _, rfl, ?_⟩
    by_cases h2 : 5 < x
    · rw [decide_eq_true (by omega)]
      refine iteT (B := True) ?_
      have e : limOf xs.length ds z.length = some 6 := by
        unfold limOf
        rw [if_neg h1, if_pos (List.any_eq_true.mpr ⟨x, hx1, decide_eq_true h2⟩)]
      rw [e] at q
      exact ⟨by show 2 ≤ 1000; decide, fun a ha => raise_end (k := none) (Same.refl _) ha (fun n h => by cases h) (reason_len 6) q⟩
    rw [decide_eq_false (by omega)]
    refine iteF (A := True) ?_
    have na : ¬ ds.any (fun x => decide (5 < x)) = true := fun h => by
      obtain ⟨y, hy, h5⟩ := List.any_eq_true.mp h
      have := hmax _ (List.mem_map.mpr ⟨y, hy, rfl⟩)
      have := of_decide_eq_true h5
      omega
    refine ⟨_, rfl, z, rfl, small30 (by omega), _, _, rfl, rfl, _, rfl, ?_⟩
    by_cases h3 : 6 < z.length
    · rw [decide_eq_true (by omega)]
      refine iteT (B := True) ?_
      have e : limOf xs.length ds z.length = some 7 := by unfold limOf; rw [if_neg h1, if_neg na, if_pos h3]
      rw [e] at q
      exact ⟨by show 2 ≤ 1000; decide, fun a ha => raise_end (k := none) (Same.refl _) ha (fun n h => by cases h) (reason_len 7) q⟩
    rw [decide_eq_false (by omega)]
    refine iteF (A := True) ?_
    have e : limOf xs.length ds z.length = none := by unfold limOf; rw [if_neg h1, if_neg na, if_neg h3]
    rw [e] at q
    exact q
end
end Kp
end
section
set_option linter.all false
/-! The fewest answers that lead to a point, level by level. Plain Lean. -/
namespace Kc
abbrev Ans := List Bool
abbrev Seen := List (Nat × Ans)
abbrev Row := List (Nat × Ans)
def Has (S : Seen) (p : Nat) : Prop := p ∈ S.map (·.1)
instance (S : Seen) (p : Nat) : Decidable (Has S p) := inferInstanceAs (Decidable (p ∈ _))
/-- a walk from p with the answers a -/
def wk (F : Nat → List Nat) : Nat → Nat → Ans → Seen → Seen × Option Nat
  | 0, _, _, S => (S, none)
  | f + 1, p, a, S => if Has S p then (S, none) else
      match F p with
      | [q] => wk F f q a (S ++ [(p, a)])
      | _ => (S ++ [(p, a)], some p)
/-- what a row gives with one more answer from the point p -/
def ext (F : Nat → List Nat) (p : Nat) (a : Ans) : Row := ((F p).zip [true, false]).map fun qy => (qy.1, a ++ [qy.2])
def wkOut (F : Nat → List Nat) (a : Ans) : Option Nat → Row
  | some q => ext F q a
  | none => []
def rw_ (F : Nat → List Nat) (f : Nat) : Row → Seen → Row × Seen
  | [], S => ([], S)
  | (p, a) :: r, S => (wkOut F a (wk F f p a S).2 ++ (rw_ F f r (wk F f p a S).1).1, (rw_ F f r (wk F f p a S).1).2)
def lv (F : Nat → List Nat) (f : Nat) : Nat → Row × Seen
  | 0 => ([(0, [])], [])
  | k + 1 => rw_ F f (lv F f k).1 (lv F f k).2
structure Gr (F : Nat → List Nat) (N : Nat) : Prop where
  lt : ∀ p q, q ∈ F p → q < N
  z : 0 < N
  two : ∀ p, (F p).length ≤ 2
structure Wf (N : Nat) (S : Seen) : Prop where
  nd : (S.map (·.1)).Nodup
  lt : ∀ p ∈ S.map (·.1), p < N
theorem nodup_lt_len : ∀ (N : Nat) {l : List Nat}, l.Nodup → (∀ x ∈ l, x < N) → l.length ≤ N
  | 0, l, h1, h2 => by
    cases l with
    | nil => exact Nat.le_refl _
    | cons x l => exact absurd (h2 x (by simp)) (Nat.not_lt_zero _)
  | N + 1, l, h1, h2 => by
    by_cases hN : N ∈ l
    · have := nodup_lt_len N (l := l.erase N) (h1.erase N) (fun x hx => by
        have hx' := (List.Nodup.mem_erase_iff h1).mp hx
        have := h2 x hx'.2
        omega)
      rw [List.length_erase_of_mem hN] at this
      omega
    · have := nodup_lt_len N (l := l) h1 (fun x hx => by
        have := h2 x hx
        have : x ≠ N := fun z => hN (z ▸ hx)
        omega)
      omega
theorem Wf.len {N : Nat} {S : Seen} (h : Wf N S) : S.length ≤ N := by
  have := nodup_lt_len N h.nd h.lt
  rwa [List.length_map] at this
theorem Wf.len1 {N : Nat} {S : Seen} (h : Wf N S) {p : Nat} (hp : p < N) (hn : ¬ Has S p) : S.length + 1 ≤ N := by
  have := nodup_lt_len N (l := p :: S.map (·.1)) (List.nodup_cons.mpr ⟨(show ¬ p ∈ S.map (·.1) from hn), h.nd⟩) (fun x hx => by
    rcases List.mem_cons.mp hx with rfl | hx
    · exact hp
    · exact h.lt x hx)
  simpa using this
theorem Wf.snoc {N : Nat} {S : Seen} (h : Wf N S) {p : Nat} {a : Ans} (hp : p < N) (hn : ¬ Has S p) : Wf N (S ++ [(p, a)]) := by
  refine ⟨?_, fun x hx => ?_⟩
  · rw [List.map_append, List.nodup_append]
    refine ⟨h.nd, by simp, fun x hx y hy => ?_⟩
    have : y = p := by simpa using hy
    subst this
    intro z; subst z; exact hn hx
  · rw [List.map_append] at hx
    rcases List.mem_append.mp hx with hx | hx
    · exact h.lt x hx
    · have : x = p := by simpa using hx
      subst this; exact hp
theorem has_app {S T : Seen} {p : Nat} : Has (S ++ T) p ↔ Has S p ∨ Has T p := by
  unfold Has; rw [List.map_append, List.mem_append]
theorem has_one {p q : Nat} {a : Ans} : Has [(p, a)] q ↔ q = p := by unfold Has; simp
/-- what a walk does -/
structure WkOk (F : Nat → List Nat) (N : Nat) (p : Nat) (a : Ans) (S S' : Seen) (h : Option Nat) : Prop where
  wf : Wf N S'
  pre : ∃ T, S' = S ++ T ∧ ∀ x ∈ T, x.2 = a
  has : Has S' p
  clo : ∀ x q, Has S' x → ¬ Has S x → q ∈ F x → Has S' q ∨ h = some x
  hlt : ∀ x, h = some x → x < N ∧ S.length < S'.length ∧ Has S' x
theorem wk_ok {F : Nat → List Nat} {N : Nat} (G : Gr F N) : ∀ (f p : Nat) (a : Ans) (S : Seen), Wf N S → p < N → N < f + S.length → WkOk F N p a S (wk F f p a S).1 (wk F f p a S).2
  | 0, p, a, S, hS, hp, hf => by have := hS.len; omega
  | f + 1, p, a, S, hS, hp, hf => by
    unfold wk
    by_cases hs : Has S p
    · rw [if_pos hs]
      exact ⟨hS, ⟨[], by simp, by simp⟩, hs, fun x q h1 h2 => absurd h1 h2, fun x z => nomatch z⟩
    · rw [if_neg hs]
      have h1 := hS.len1 hp hs
      have wf1 := hS.snoc (a := a) hp hs
      have stop : (match F p with | [q] => wk F f q a (S ++ [(p, a)]) | _ => (S ++ [(p, a)], some p)) = (S ++ [(p, a)], some p) → WkOk F N p a S (S ++ [(p, a)]) (some p) := fun _ => ⟨wf1, ⟨[(p, a)], rfl, by simp⟩, has_app.mpr (.inr (has_one.mpr rfl)), fun x q h1 h2 _ => by
          rcases has_app.mp h1 with z | z
          · exact absurd z h2
          · exact .inr (by rw [has_one.mp z]), fun x z => by
            cases z
            exact ⟨hp, by simp, has_app.mpr (.inr (has_one.mpr rfl))⟩⟩
      split
      · rename_i q hq
        have hqN : q < N := G.lt p q (by rw [hq]; simp)
        have ih := wk_ok G f q a (S ++ [(p, a)]) wf1 hqN (by simp; omega)
        obtain ⟨wf, ⟨T, eT, aT⟩, has, clo, hlt⟩ := ih
        refine ⟨wf, ⟨(p, a) :: T, by rw [eT]; simp, fun x hx => ?_⟩, ?_, fun x r h1 h2 h3 => ?_, fun x hx => ?_⟩
        · rcases List.mem_cons.mp hx with rfl | hx
          · rfl
          · exact aT x hx
        · rw [eT]; exact has_app.mpr (.inl (has_app.mpr (.inr (has_one.mpr rfl))))
        · by_cases hx : x = p
          · subst hx
            rw [hq] at h3
            have : r = q := by simpa using h3
            subst this; exact .inl has
          · exact clo x r h1 (fun z => by
              rcases has_app.mp z with z | z
              · exact h2 z
              · exact hx (has_one.mp z)) h3
        · have := hlt x hx
          refine ⟨this.1, ?_, this.2.2⟩
          have := this.2.1
          simp at this; omega
      · rename_i hq
        exact stop (by split; · rename_i q h; exact absurd h (hq q)
                       · rfl)
/-- a row's points -/
def Pt (R : Row) (p : Nat) : Prop := p ∈ R.map (·.1)
structure RwOk (F : Nat → List Nat) (N k : Nat) (R : Row) (S : Seen) (R' : Row) (S' : Seen) : Prop where
  wf : Wf N S'
  pre : ∃ T, S' = S ++ T ∧ ∀ x ∈ T, x.2.length = k
  has : ∀ p, Pt R p → Has S' p
  clo : ∀ x q, Has S' x → ¬ Has S x → q ∈ F x → Has S' q ∨ Pt R' q
  lt : ∀ x ∈ R', x.1 < N ∧ x.2.length = k + 1
  len : R'.length ≤ 2 * (S'.length - S.length)
theorem ext_pt {F : Nat → List Nat} {p : Nat} {a : Ans} (h2 : (F p).length ≤ 2) {q : Nat} (hq : q ∈ F p) : Pt (ext F p a) q := by
  unfold Pt ext
  match h : F p with
  | [] => rw [h] at hq; cases hq
  | [x] => rw [h] at hq; simpa using hq
  | [x, y] => rw [h] at hq; simpa using hq
  | _ :: _ :: _ :: _ => rw [h] at h2; simp at h2
theorem ext_lt {F : Nat → List Nat} {N : Nat} (G : Gr F N) {p : Nat} {a : Ans} : ∀ x ∈ ext F p a, x.1 < N ∧ x.2.length = a.length + 1 := by
  intro x hx
  unfold ext at hx
  obtain ⟨qy, hq, rfl⟩ := List.mem_map.mp hx
  exact ⟨G.lt p _ (List.of_mem_zip hq).1, by simp⟩
theorem ext_len {F : Nat → List Nat} {p : Nat} {a : Ans} : (ext F p a).length ≤ 2 := by
  unfold ext; rw [List.length_map, List.length_zip]; simp; omega
theorem pt_app {R T : Row} {p : Nat} : Pt (R ++ T) p ↔ Pt R p ∨ Pt T p := by unfold Pt; rw [List.map_append, List.mem_append]
theorem rw_ok {F : Nat → List Nat} {N f k : Nat} (G : Gr F N) (hf : N < f) : ∀ (R : Row) (S : Seen), Wf N S → (∀ x ∈ R, x.1 < N ∧ x.2.length = k) → RwOk F N k R S (rw_ F f R S).1 (rw_ F f R S).2
  | [], S, hS, hR => ⟨hS, ⟨[], by simp [rw_], by simp⟩, fun p hp => (by cases hp), fun x q h1 h2 => absurd h1 h2, fun x hx => (by cases hx), by simp [rw_]⟩
  | (p, a) :: r, S, hS, hR => by
    have hp := hR (p, a) (by simp)
    obtain ⟨wf, ⟨T, eT, aT⟩, has, clo, hlt⟩ := wk_ok G f p a S hS hp.1 (by omega)
    obtain ⟨wf2, ⟨T2, eT2, aT2⟩, has2, clo2, lt2, len2⟩ := rw_ok (k := k) G hf r (wk F f p a S).1 wf (fun x hx => hR x (by simp [hx]))
    unfold rw_
    simp only
    have mono : ∀ x, Has (wk F f p a S).1 x → Has (rw_ F f r (wk F f p a S).1).2 x := fun x hx => by rw [eT2]; exact has_app.mpr (.inl hx)
    refine ⟨wf2, ⟨T ++ T2, by rw [eT2, eT]; simp, fun x hx => ?_⟩, fun q hq => ?_, fun x q h1 h2 h3 => ?_, fun x hx => ?_, ?_⟩
    · rcases List.mem_append.mp hx with hx | hx
      · rw [aT x hx]; exact hp.2
      · exact aT2 x hx
    · unfold Pt at hq
      rcases List.mem_cons.mp hq with rfl | hq
      · exact mono _ has
      · exact has2 q hq
    · by_cases hx : Has (wk F f p a S).1 x
      · rcases clo x q hx h2 h3 with z | z
        · exact .inl (mono _ z)
        · refine .inr (pt_app.mpr (.inl ?_))
          rw [z]; exact ext_pt (G.two x) h3
      · rcases clo2 x q h1 hx h3 with z | z
        · exact .inl z
        · exact .inr (pt_app.mpr (.inr z))
    · rcases List.mem_append.mp hx with hx | hx
      · cases hh : (wk F f p a S).2 with
        | none => rw [hh] at hx; cases hx
        | some z => rw [hh] at hx; have := ext_lt G x hx; rw [hp.2] at this; exact this
      · exact lt2 x hx
    · rw [List.length_append]
      have l1 : S.length ≤ (wk F f p a S).1.length := by
        have := congrArg List.length eT; simp at this; omega
      have l2 : (wk F f p a S).1.length ≤ (rw_ F f r (wk F f p a S).1).2.length := by
        have := congrArg List.length eT2; simp at this; omega
      cases hh : (wk F f p a S).2 with
      | none => simp only [wkOut, List.length_nil]; omega
      | some z =>
        have := (hlt z hh).2.1
        have := @ext_len F z a
        simp only [wkOut]; omega
structure LvOk (F : Nat → List Nat) (N k : Nat) (R : Row) (S : Seen) : Prop where
  wf : Wf N S
  zero : Has S 0 ∨ Pt R 0
  clo : ∀ x q, Has S x → q ∈ F x → Has S q ∨ Pt R q
  lt : ∀ x ∈ R, x.1 < N ∧ x.2.length = k
  ans : ∀ x ∈ S, x.2.length < k
  len : R.length ≤ 2 * N + 1
  grow : R = [] ∨ k ≤ S.length
theorem lv_ok {F : Nat → List Nat} {N f : Nat} (G : Gr F N) (hf : N < f) : ∀ k, LvOk F N k (lv F f k).1 (lv F f k).2
  | 0 => ⟨⟨.nil, (by intro p hp; cases hp)⟩, .inr (by simp [Pt, lv]), fun x q h => (by cases h), fun x hx => (by simp [lv] at hx; subst hx; exact ⟨G.z, rfl⟩), (by intro x hx; cases hx), by simp [lv], .inr (Nat.zero_le _)⟩
  | k + 1 => by
    have h := lv_ok G hf k
    obtain ⟨wf, ⟨T, eT, aT⟩, has, clo, lt, len⟩ := rw_ok G hf (lv F f k).1 (lv F f k).2 h.wf h.lt
    have mono : ∀ x, Has (lv F f k).2 x → Has (rw_ F f (lv F f k).1 (lv F f k).2).2 x := fun x hx => by rw [eT]; exact has_app.mpr (.inl hx)
    show LvOk F N (k + 1) (rw_ F f (lv F f k).1 (lv F f k).2).1 (rw_ F f (lv F f k).1 (lv F f k).2).2
    have l1 := wf.len
    refine ⟨wf, .inl (h.zero.elim (mono _) (has 0)), fun x q h1 h2 => ?_, lt, fun x hx => ?_, by omega, ?_⟩
    · by_cases hx : Has (lv F f k).2 x
      · rcases h.clo x q hx h2 with z | z
        · exact .inl (mono _ z)
        · exact .inl (has q z)
      · exact clo x q h1 hx h2
    · rw [eT] at hx
      rcases List.mem_append.mp hx with hx | hx
      · have := h.ans x hx; omega
      · rw [aT x hx]; omega
    · rcases h.grow with z | z
      · left; rw [z]; rfl
      · by_cases hr : (rw_ F f (lv F f k).1 (lv F f k).2).1 = []
        · exact .inl hr
        · right
          have : 0 < (rw_ F f (lv F f k).1 (lv F f k).2).1.length := List.length_pos_iff.mpr hr
          omega
inductive Reach (F : Nat → List Nat) : Nat → Nat → Prop
  | refl {p : Nat} : Reach F p p
  | step {p q r : Nat} : Reach F p q → r ∈ F q → Reach F p r
theorem Reach.trans {F : Nat → List Nat} {p q r : Nat} (h : Reach F p q) (g : Reach F q r) : Reach F p r := by
  induction g with
  | refl => exact h
  | step _ e ih => exact .step ih e
theorem Reach.one {F : Nat → List Nat} {p q : Nat} (h : q ∈ F p) : Reach F p q := .step .refl h
/-- a point that is not seen yet is still to come -/
theorem lv_not {F : Nat → List Nat} {N f : Nat} (G : Gr F N) (hf : N < f) {k g : Nat} (hg : g < N) (hr : Reach F 0 g) (hn : ¬ Has (lv F f k).2 g) : k + 1 ≤ N := by
  have h := lv_ok G hf k
  have l1 := h.wf.len1 hg hn
  rcases h.grow with z | z
  · exfalso
    have none : ∀ p, ¬ Pt (lv F f k).1 p := fun p hp => by rw [z] at hp; cases hp
    have all : ∀ p, Reach F 0 p → Has (lv F f k).2 p := fun p hp => by
      induction hp with
      | refl => exact h.zero.elim id fun y => absurd y (none 0)
      | step _ e ih => exact (h.clo _ _ ih e).elim id fun y => absurd y (none _)
    exact hn (all g hr)
  · omega
theorem lv_pre {F : Nat → List Nat} {N f : Nat} (G : Gr F N) (hf : N < f) (k : Nat) : ∃ T, (lv F f (k + 1)).2 = (lv F f k).2 ++ T := by
  have h := lv_ok G hf k
  obtain ⟨_, ⟨T, eT, _⟩, _⟩ := rw_ok G hf (lv F f k).1 (lv F f k).2 h.wf h.lt
  exact ⟨T, eT⟩
theorem lv_pre' {F : Nat → List Nat} {N f : Nat} (G : Gr F N) (hf : N < f) (k j : Nat) : ∃ T, (lv F f (k + j)).2 = (lv F f k).2 ++ T := by
  induction j with
  | zero => exact ⟨[], by simp⟩
  | succ j ih =>
    obtain ⟨T, e⟩ := ih
    obtain ⟨U, e2⟩ := lv_pre G hf (k + j)
    exact ⟨T ++ U, by rw [← Nat.add_assoc, e2, e, List.append_assoc]⟩
/-- the first of the fewest answers -/
def ans (F : Nat → List Nat) (N : Nat) (g : Nat) : Ans := ((lv F (N + 1) N).2.lookup g).getD []
theorem lookup_app {S T : Seen} {p : Nat} (h : Has S p) : (S ++ T).lookup p = S.lookup p := by
  induction S with
  | nil => cases h
  | cons x S ih =>
    obtain ⟨q, a⟩ := x
    rw [List.cons_append, List.lookup_cons, List.lookup_cons]
    by_cases e : p = q
    · subst e; simp
    · have : (p == q) = false := by simpa using e
      rw [this]
      refine ih ?_
      unfold Has at h ⊢
      rcases List.mem_cons.mp h with z | z
      · exact absurd z e
      · exact z
theorem lookup_has {S : Seen} {p : Nat} (h : Has S p) : ∃ a, S.lookup p = some a := by
  induction S with
  | nil => cases h
  | cons x S ih =>
    obtain ⟨q, a⟩ := x
    rw [List.lookup_cons]
    by_cases e : p = q
    · subst e; exact ⟨a, by simp⟩
    · have : (p == q) = false := by simpa using e
      rw [this]
      refine ih ?_
      unfold Has at h ⊢
      rcases List.mem_cons.mp h with z | z
      · exact absurd z e
      · exact z
theorem lookup_new {S T : Seen} {p : Nat} {a : Ans} (h : ¬ Has S p) : (S ++ (p, a) :: T).lookup p = some a := by
  induction S with
  | nil => simp [List.lookup_cons]
  | cons x S ih =>
    obtain ⟨q, b⟩ := x
    rw [List.cons_append, List.lookup_cons]
    have e : p ≠ q := fun z => h (by unfold Has; simp [z])
    have : (p == q) = false := by simpa using e
    rw [this]
    exact ih fun z => h (by unfold Has at z ⊢; exact List.mem_cons_of_mem _ z)
theorem ans_of {F : Nat → List Nat} {N : Nat} (G : Gr F N) {k g : Nat} {a : Ans} (hg : g < N) (hr : Reach F 0 g) (h : (lv F (N + 1) k).2.lookup g = some a) : ans F N g = a := by
  have hN : Has (lv F (N + 1) N).2 g := Decidable.byContradiction fun z => by have := lv_not G (Nat.lt_succ_self N) hg hr z; omega
  have hk : Has (lv F (N + 1) k).2 g := by
    have : ∀ {S : Seen}, S.lookup g = some a → Has S g := fun {S} => by
      induction S with
      | nil => intro z; cases z
      | cons x S ih =>
        obtain ⟨q, b⟩ := x
        rw [List.lookup_cons]
        intro z
        by_cases e : g = q
        · subst e; unfold Has; simp
        · have e2 : (g == q) = false := by simpa using e
          rw [e2] at z
          have := ih z
          unfold Has at this ⊢; exact List.mem_cons_of_mem _ this
    exact this h
  unfold ans
  rcases Nat.le_total k N with le | le
  · obtain ⟨T, e⟩ := lv_pre' G (Nat.lt_succ_self N) k (N - k)
    rw [show k + (N - k) = N by omega] at e
    rw [e, lookup_app hk, h]; rfl
  · obtain ⟨T, e⟩ := lv_pre' G (Nat.lt_succ_self N) N (k - N)
    rw [show N + (k - N) = k by omega] at e
    rw [e, lookup_app hN] at h
    rw [h]; rfl
theorem ans_len {F : Nat → List Nat} {N : Nat} (G : Gr F N) (g : Nat) : (ans F N g).length ≤ N := by
  have h := lv_ok G (Nat.lt_succ_self N) N
  unfold ans
  cases e : (lv F (N + 1) N).2.lookup g with
  | none => simp
  | some a =>
    have : ∀ {S : Seen}, S.lookup g = some a → ∃ q, (q, a) ∈ S := fun {S} => by
      induction S with
      | nil => intro z; cases z
      | cons x S ih =>
        obtain ⟨q, b⟩ := x
        rw [List.lookup_cons]
        intro z
        cases e2 : (g == q) with
        | true => rw [e2] at z; cases z; exact ⟨q, by simp⟩
        | false => rw [e2] at z; obtain ⟨q', hq⟩ := ih z; exact ⟨q', by simp [hq]⟩
    obtain ⟨q, hq⟩ := this e
    have := h.ans _ hq
    simp only [Option.getD_some]; simp only at this; omega
end Kc
end
section
set_option linter.all false
/-! The points that are reached without a lesser depth; lows; followers of a tree. Plain Lean. -/
namespace Kc
open Ka Ka.Tree
/-- from p along L, to points that are ok alone -/
inductive RL (L : Nat → List Nat) (ok : Nat → Bool) : Nat → Nat → Prop
  | refl {p : Nat} : RL L ok p p
  | step {p q r : Nat} : RL L ok p q → r ∈ L q → ok r = true → RL L ok p r
theorem RL.trans {L : Nat → List Nat} {ok : Nat → Bool} {p q r : Nat} (h : RL L ok p q) (g : RL L ok q r) : RL L ok p r := by
  induction g with
  | refl => exact h
  | step _ e o ih => exact .step ih e o
theorem RL.end_ok {L : Nat → List Nat} {ok : Nat → Bool} {p q : Nat} (h : RL L ok p q) (hp : ok p = true) : ok q = true := by
  cases h with
  | refl => exact hp
  | step _ _ o => exact o
theorem RL.back {L M : Nat → List Nat} {ok : Nat → Bool} (hm : ∀ p q, q ∈ L p → p ∈ M q) {p q : Nat} (h : RL L ok p q) (hp : ok p = true) : RL M ok q p := by
  induction h with
  | refl => exact .refl
  | step h e o ih => exact (RL.step .refl (hm _ _ e) (h.end_ok hp)).trans ih
theorem RL.closed {L : Nat → List Nat} {ok : Nat → Bool} {C : Nat → Prop} {p q : Nat} (h : RL L ok p q) (h0 : C p) (hc : ∀ x y, C x → y ∈ L x → ok y = true → C y) : C q := by
  induction h with
  | refl => exact h0
  | step _ e o ih => exact hc _ _ ih e o
theorem RL.lt {L : Nat → List Nat} {ok : Nat → Bool} {N : Nat} (hl : ∀ p q, q ∈ L p → q < N) {p q : Nat} (h : RL L ok p q) (hp : p < N) : q < N := by
  cases h with
  | refl => exact hp
  | step _ e _ => exact hl _ _ e
/-- where the edges from p lead -/
def fol (T : Tree) (p : Nat) : List Nat := ((T.pE 0 1).filter (from_ p)).map (·.t)
/-- from where edges lead to p -/
def led (T : Tree) (p : Nat) : List Nat := ((T.pE 0 1).filter fun e => decide (e.t = p)).map (·.s)
theorem mem_fol {T : Tree} {p q : Nat} : q ∈ fol T p ↔ ∃ e ∈ T.pE 0 1, e.s = p ∧ e.t = q := by
  unfold fol
  simp only [List.mem_map, List.mem_filter, from_, decide_eq_true_eq]
  constructor
  · rintro ⟨e, ⟨h1, h2⟩, h3⟩; exact ⟨e, h1, h2, h3⟩
  · rintro ⟨e, h1, h2, h3⟩; exact ⟨e, ⟨h1, h2⟩, h3⟩
theorem mem_led {T : Tree} {p q : Nat} : p ∈ led T q ↔ ∃ e ∈ T.pE 0 1, e.s = p ∧ e.t = q := by
  unfold led
  simp only [List.mem_map, List.mem_filter, decide_eq_true_eq]
  constructor
  · rintro ⟨e, ⟨h1, h2⟩, h3⟩; exact ⟨e, h1, h3, h2⟩
  · rintro ⟨e, h1, h2, h3⟩; exact ⟨e, ⟨h1, h3⟩, h2⟩
theorem fol_led {T : Tree} {p q : Nat} : q ∈ fol T p ↔ p ∈ led T q := by rw [mem_fol, mem_led]
/-- the edges' ends -/
theorem pE_range (T : Tree) : ∀ k n e, e ∈ T.pE k n → (k ≤ e.s ∧ e.s < k + T.len) ∧ k ≤ e.t ∧ e.t ≤ k + T.len := by
  induction T with
  | nil => intro k n e h; cases h
  | ln l r ih =>
    intro k n e h
    simp only [pE, len, List.mem_cons] at h ⊢
    rcases h with rfl | h
    · simp only; omega
    · have := ih _ _ _ h; omega
  | blk w b r ihb ihr =>
    intro k n e h
    simp only [pE, len, List.mem_cons, List.mem_append] at h ⊢
    rcases h with rfl | h | h | rfl | h
    · simp only; omega
    · cases w
      · cases h
      · simp only [if_true, List.mem_singleton] at h; subst h; simp only; omega
    · have := ihb _ _ _ h; omega
    · cases w <;> simp only [if_true, if_false, Bool.false_eq_true] <;> omega
    · have := ihr _ _ _ h; omega
  | br a b r iha ihb ihr =>
    intro k n e h
    simp only [pE, len, List.mem_cons, List.mem_append] at h ⊢
    rcases h with rfl | rfl | h | rfl | h | rfl | h
    · simp only; omega
    · simp only; omega
    · have := iha _ _ _ h; omega
    · simp only; omega
    · have := ihb _ _ _ h; omega
    · simp only; omega
    · have := ihr _ _ _ h; omega
/-- of the edges from one point no two lead to the same, and there are at most two -/
def Apart (l : List Edge) : Prop := l.Pairwise fun e f => e.s = f.s → e.t ≠ f.t
theorem apart_append {l m : List Edge} (h : Apart l) (g : Apart m) (d : ∀ e ∈ l, ∀ f ∈ m, e.s ≠ f.s) : Apart (l ++ m) :=
  List.pairwise_append.mpr ⟨h, g, fun e he f hf z => absurd z (d e he f hf)⟩
theorem apart_cons {e : Edge} {l : List Edge} (h : Apart l) (d : ∀ f ∈ l, e.s = f.s → e.t ≠ f.t) : Apart (e :: l) := List.pairwise_cons.mpr ⟨d, h⟩
theorem pE_apart (T : Tree) : ∀ k n, Apart (T.pE k n) := by
  induction T with
  | nil => intro k n; exact .nil
  | ln l r ih =>
    intro k n
    refine apart_cons (ih _ _) fun f hf z => ?_
    have := pE_range r _ _ _ hf
    simp only at z; omega
  | blk w b r ihb ihr =>
    intro k n
    have q1 : Apart (⟨k + 1 + b.len, .leave n, if w then k else k + 2 + b.len⟩ :: r.pE (k + 2 + b.len) (n + 1 + b.nsc)) := apart_cons (ihr _ _) fun f hf z => by
      have := pE_range r _ _ _ hf
      simp only at z; omega
    have q2 := apart_append (ihb (k + 1) (n + 1)) q1 fun e he f hf => by
      have h1 := pE_range b _ _ _ he
      rcases List.mem_cons.mp hf with rfl | hf
      · simp only; omega
      · have := pE_range r _ _ _ hf; omega
    have far : ∀ f ∈ b.pE (k + 1) (n + 1) ++ (⟨k + 1 + b.len, .leave n, if w then k else k + 2 + b.len⟩ :: r.pE (k + 2 + b.len) (n + 1 + b.nsc)), f.s ≠ k := fun f hf => by
      rcases List.mem_append.mp hf with hf | hf
      · have := pE_range b _ _ _ hf; omega
      · rcases List.mem_cons.mp hf with rfl | hf
        · simp only; omega
        · have := pE_range r _ _ _ hf; omega
    cases w
    · exact apart_cons q2 fun f hf z => absurd z.symm (far f hf)
    · refine apart_cons (apart_cons q2 fun f hf z => absurd z.symm (far f hf)) fun f hf z => ?_
      rcases List.mem_cons.mp hf with rfl | hf
      · simp only; omega
      · exact absurd z.symm (far f hf)
  | br a b r iha ihb ihr =>
    intro k n
    have q1 : Apart (⟨k + 2 + a.len + b.len, .leave (n + 1 + a.nsc), k + 3 + a.len + b.len⟩ :: r.pE (k + 3 + a.len + b.len) (n + 2 + a.nsc + b.nsc)) := apart_cons (ihr _ _) fun f hf z => by
      have := pE_range r _ _ _ hf
      simp only at z; omega
    have q2 := apart_append (ihb (k + 2 + a.len) (n + 2 + a.nsc)) q1 fun e he f hf => by
      have h1 := pE_range b _ _ _ he
      rcases List.mem_cons.mp hf with rfl | hf
      · simp only; omega
      · have := pE_range r _ _ _ hf; omega
    have lo2 : ∀ f ∈ b.pE (k + 2 + a.len) (n + 2 + a.nsc) ++ (⟨k + 2 + a.len + b.len, .leave (n + 1 + a.nsc), k + 3 + a.len + b.len⟩ :: r.pE (k + 3 + a.len + b.len) (n + 2 + a.nsc + b.nsc)), k + 2 + a.len ≤ f.s := fun f hf => by
      rcases List.mem_append.mp hf with hf | hf
      · have := pE_range b _ _ _ hf; omega
      · rcases List.mem_cons.mp hf with rfl | hf
        · simp only; omega
        · have := pE_range r _ _ _ hf; omega
    have q3 := apart_cons (e := ⟨k + 1 + a.len, .leave n, k + 3 + a.len + b.len⟩) q2 fun f hf z => by have := lo2 f hf; simp only at z; omega
    have q4 := apart_append (iha (k + 1) (n + 1)) q3 fun e he f hf => by
      have h1 := pE_range a _ _ _ he
      rcases List.mem_cons.mp hf with rfl | hf
      · simp only; omega
      · have := lo2 f hf; omega
    have far : ∀ f ∈ a.pE (k + 1) (n + 1) ++ (⟨k + 1 + a.len, .leave n, k + 3 + a.len + b.len⟩ :: (b.pE (k + 2 + a.len) (n + 2 + a.nsc) ++ (⟨k + 2 + a.len + b.len, .leave (n + 1 + a.nsc), k + 3 + a.len + b.len⟩ :: r.pE (k + 3 + a.len + b.len) (n + 2 + a.nsc + b.nsc)))), f.s ≠ k := fun f hf => by
      rcases List.mem_append.mp hf with hf | hf
      · have := pE_range a _ _ _ hf; omega
      · rcases List.mem_cons.mp hf with rfl | hf
        · simp only; omega
        · have := lo2 f hf; omega
    refine apart_cons (apart_cons q4 fun f hf z => absurd z.symm (far f hf)) fun f hf z => ?_
    rcases List.mem_cons.mp hf with rfl | hf
    · simp only; omega
    · exact absurd z.symm (far f hf)
theorem fol_nodup (T : Tree) (p : Nat) : (fol T p).Nodup := by
  have h : Apart ((T.pE 0 1).filter (from_ p)) := (pE_apart T 0 1).sublist List.filter_sublist
  unfold fol
  rw [List.Nodup, List.pairwise_map]
  refine h.imp_of_mem fun {e f} he hf z => z ?_
  have h1 : e.s = p := of_decide_eq_true (List.mem_filter.mp he).2
  have h2 : f.s = p := of_decide_eq_true (List.mem_filter.mp hf).2
  rw [h1, h2]
theorem two_fol (T : Tree) : ∀ k n p, ((T.pE k n).filter (from_ p)).length ≤ 2 := by
  induction T with
  | nil => intro k n p; exact Nat.zero_le _
  | ln l r ih =>
    intro k n p
    simp only [pE]
    by_cases hp : p = k
    · subst hp
      rw [fp, none_from fun e he z => by have := pE_range r _ _ _ he; omega]; simp
    · rw [fn (fun z => hp z.symm)]; exact ih _ _ _
  | blk w b r ihb ihr =>
    intro k n p
    simp only [pE]
    have nb : ∀ q, q ≤ k ∨ k + 1 + b.len ≤ q → (b.pE (k + 1) (n + 1)).filter (from_ q) = [] := fun q hq => none_from fun e he z => by have := pE_range b _ _ _ he; omega
    have nr : ∀ q, q < k + 2 + b.len → (r.pE (k + 2 + b.len) (n + 1 + b.nsc)).filter (from_ q) = [] := fun q hq => none_from fun e he z => by have := pE_range r _ _ _ he; omega
    by_cases hp : p = k
    · subst hp
      rw [fp, List.filter_append, List.filter_append, nb p (.inl (Nat.le_refl _)), fn (by omega), nr p (by omega)]
      cases w
      · simp
      · simp only [if_true]; rw [fp]; simp
    · have hk : k ≠ p := fun z => hp z.symm
      have nw : (if w = true then [(⟨k, .pass, k + 2 + b.len⟩ : Edge)] else []).filter (from_ p) = [] := none_from fun e he z => by
        cases w
        · cases he
        · simp only [if_true, List.mem_singleton] at he; subst he; exact hp z.symm
      rw [fn hk, List.filter_append, List.filter_append, nw, List.nil_append]
      by_cases h1 : p < k + 1 + b.len
      · rw [fn (by omega), nr p (by omega), List.append_nil]; exact ihb _ _ _
      · rw [nb p (.inr (by omega)), List.nil_append]
        by_cases h2 : p = k + 1 + b.len
        · subst h2; rw [fp, nr _ (by omega)]; simp
        · rw [fn (fun z => h2 z.symm)]; exact ihr _ _ _
  | br a b r iha ihb ihr =>
    intro k n p
    simp only [pE]
    have na : ∀ q, q ≤ k ∨ k + 1 + a.len ≤ q → (a.pE (k + 1) (n + 1)).filter (from_ q) = [] := fun q hq => none_from fun e he z => by have := pE_range a _ _ _ he; omega
    have nb : ∀ q, q < k + 2 + a.len ∨ k + 2 + a.len + b.len ≤ q → (b.pE (k + 2 + a.len) (n + 2 + a.nsc)).filter (from_ q) = [] := fun q hq => none_from fun e he z => by have := pE_range b _ _ _ he; omega
    have nr : ∀ q, q < k + 3 + a.len + b.len → (r.pE (k + 3 + a.len + b.len) (n + 2 + a.nsc + b.nsc)).filter (from_ q) = [] := fun q hq => none_from fun e he z => by have := pE_range r _ _ _ he; omega
    by_cases hp : p = k
    · subst hp
      rw [fp, fp, List.filter_append, na p (.inl (Nat.le_refl _)), List.nil_append, fn (by omega), List.filter_append, nb p (.inl (by omega)), List.nil_append, fn (by omega), nr p (by omega)]
      simp
    · have hk : k ≠ p := fun z => hp z.symm
      rw [fn hk, fn hk, List.filter_append]
      by_cases h1 : p < k + 1 + a.len
      · rw [fn (by omega), List.filter_append, nb p (.inl (by omega)), fn (by omega), nr p (by omega)]
        simp only [List.nil_append, List.append_nil]; exact iha _ _ _
      · rw [na p (.inr (by omega)), List.nil_append]
        by_cases h2 : p = k + 1 + a.len
        · subst h2
          rw [fp, List.filter_append, nb _ (.inl (by omega)), fn (by omega), nr _ (by omega)]; simp
        · rw [fn (fun z => h2 z.symm), List.filter_append]
          by_cases h3 : p < k + 2 + a.len + b.len
          · rw [fn (by omega), nr p (by omega), List.append_nil]; exact ihb _ _ _
          · rw [nb p (.inr (by omega)), List.nil_append]
            by_cases h4 : p = k + 2 + a.len + b.len
            · subst h4; rw [fp, nr _ (by omega)]; simp
            · rw [fn (fun z => h4 z.symm)]; exact ihr _ _ _
theorem gr_fol (T : Tree) : Gr (fol T) (T.len + 1) where
  lt := fun p q h => by
    obtain ⟨e, he, _, rfl⟩ := mem_fol.mp h
    have := pE_range T 0 1 e he; omega
  z := Nat.succ_pos _
  two := fun p => by unfold fol; rw [List.length_map]; exact two_fol T 0 1 p
/-- each point of a tree is reached from its first -/
theorem reach_tree {F : Nat → List Nat} (T : Tree) : ∀ k n, (∀ e ∈ T.pE k n, e.t ∈ F e.s) → ∀ p, k ≤ p → p ≤ k + T.len → Reach F k p := by
  induction T with
  | nil => intro k n _ p h1 h2; simp only [len] at h2; rw [show p = k by omega]; exact .refl
  | ln l r ih =>
    intro k n h p h1 h2
    simp only [len] at h2
    by_cases hp : p = k
    · rw [hp]; exact .refl
    · have h0 : k + 1 ∈ F k := h ⟨k, .line l, k + 1⟩ (by simp [pE])
      exact (Reach.one h0).trans (ih (k + 1) n (fun e he => h e (by simp [pE, he])) p (by omega) (by omega))
  | blk w b r ihb ihr =>
    intro k n h p h1 h2
    simp only [len] at h2
    have h0 : k + 1 ∈ F k := h ⟨k, .enter n, k + 1⟩ (by simp [pE])
    have hb := fun q a c => (Reach.one h0).trans (ihb (k + 1) (n + 1) (fun e he => h e (by simp [pE, he])) q a c)
    have hl : (if w then k else k + 2 + b.len) ∈ F (k + 1 + b.len) := h ⟨k + 1 + b.len, .leave n, if w then k else k + 2 + b.len⟩ (by simp [pE])
    have h3 : Reach F k (k + 2 + b.len) := by
      cases w
      · exact .step (hb (k + 1 + b.len) (by omega) (Nat.le_refl _)) hl
      · exact .one (h ⟨k, .pass, k + 2 + b.len⟩ (by simp [pE]))
    by_cases hp : p = k
    · rw [hp]; exact .refl
    · by_cases hp2 : p ≤ k + 1 + b.len
      · exact hb p (by omega) hp2
      · exact h3.trans (ihr (k + 2 + b.len) (n + 1 + b.nsc) (fun e he => h e (by simp [pE, he])) p (by omega) (by omega))
  | br a b r iha ihb ihr =>
    intro k n h p h1 h2
    simp only [len] at h2
    have h0 : k + 1 ∈ F k := h ⟨k, .enter n, k + 1⟩ (by simp [pE])
    have h0' : k + 2 + a.len ∈ F k := h ⟨k, .enter (n + 1 + a.nsc), k + 2 + a.len⟩ (by simp [pE])
    have ha := fun q x c => (Reach.one h0).trans (iha (k + 1) (n + 1) (fun e he => h e (by simp [pE, he])) q x c)
    have hb := fun q x c => (Reach.one h0').trans (ihb (k + 2 + a.len) (n + 2 + a.nsc) (fun e he => h e (by simp [pE, he])) q x c)
    have hl : k + 3 + a.len + b.len ∈ F (k + 1 + a.len) := h ⟨k + 1 + a.len, .leave n, k + 3 + a.len + b.len⟩ (by simp [pE])
    have h3 : Reach F k (k + 3 + a.len + b.len) := .step (ha (k + 1 + a.len) (by omega) (Nat.le_refl _)) hl
    by_cases hp : p = k
    · rw [hp]; exact .refl
    · by_cases hp2 : p ≤ k + 1 + a.len
      · exact ha p (by omega) hp2
      · by_cases hp3 : p ≤ k + 2 + a.len + b.len
        · exact hb p (by omega) hp3
        · exact h3.trans (ihr (k + 3 + a.len + b.len) (n + 2 + a.nsc + b.nsc) (fun e he => h e (by simp [pE, he])) p (by omega) (by omega))
theorem reach_fol (T : Tree) (p : Nat) (hp : p < T.len + 1) : Reach (fol T) 0 p :=
  reach_tree T 0 1 (fun e he => mem_fol.mpr ⟨e, he, rfl, rfl⟩) p (Nat.zero_le _) (by omega)
/-- the low m is possible from p to q -/
def lowOk (T : Tree) (d : Nat → Nat) (p q m : Nat) : Prop := m ≤ min (d p) (d q) ∧ ∃ x, RL (fol T) (fun y => decide (m ≤ d y)) p x ∧ d x = m ∧ RL (led T) (fun y => decide (m ≤ d y)) q x
theorem lowOk_law {T : Tree} {d : Nat → Nat} {p q m : Nat} : lowOk T d p q m ↔ m ≤ d p ∧ ∃ x, RL (fol T) (fun y => decide (m ≤ d y)) p x ∧ d x = m ∧ RL (fol T) (fun y => decide (m ≤ d y)) x q := by
  constructor
  · rintro ⟨h, x, h1, h2, h3⟩
    refine ⟨by omega, x, h1, h2, ?_⟩
    exact h3.back (fun p q e => fol_led.mpr e) (decide_eq_true (by omega))
  · rintro ⟨h, x, h1, h2, h3⟩
    have hq := of_decide_eq_true (h3.end_ok (decide_eq_true (by omega)))
    exact ⟨by omega, x, h1, h2, h3.back (fun p q e => fol_led.mp e) (decide_eq_true (by omega))⟩
theorem filter_range {c : Nat → Bool} {m n : Nat} (h : ∀ k, c k = true → k < m) (hn : m ≤ n) : (List.range n).filter c = (List.range m).filter c := by
  obtain ⟨j, rfl⟩ : ∃ j, n = m + j := ⟨n - m, by omega⟩
  rw [List.range_add, List.filter_append]
  have : List.filter c (List.map (fun x => m + x) (List.range j)) = [] := by
    rw [List.filter_eq_nil_iff]
    intro x hx z
    obtain ⟨y, _, rfl⟩ := List.mem_map.mp hx
    have := h _ z; omega
  rw [this, List.append_nil]
/-- of the scopes around two points: the first that is around both -/
theorem around_depth {P : List (Option Nat)} {D : List Nat} (h : Chain P D) : ∀ (d s : Nat), D[s]? = some d → ∀ x ∈ around P d s, ∃ e, D[x]? = some e ∧ e ≤ d ∧ (e = d → x = s)
  | 0, s, hd, x, hx => by
    have : x = s := by simpa [around] using hx
    subst this
    exact ⟨0, hd, Nat.le_refl _, fun _ => rfl⟩
  | d + 1, s, hd, x, hx => by
    have h0 : s ≠ 0 := fun z => by subst z; rw [h.zd] at hd; cases hd
    obtain ⟨p, e, h1, h2, h3, h4⟩ := h.up s (by omega) (by rw [h.len]; exact (List.getElem?_eq_some_iff.mp hd).1)
    have ed : d = e := by rw [h4] at hd; have := Option.some.inj hd; omega
    subst ed
    rw [around, h1] at hx
    simp only [Option.getD_some] at hx
    rcases List.mem_cons.mp hx with rfl | hx
    · exact ⟨d + 1, hd, Nat.le_refl _, fun _ => rfl⟩
    · obtain ⟨e, he, hle, _⟩ := around_depth h d p h3 x hx
      exact ⟨e, he, by omega, fun z => by omega⟩
/-- the depths along the row of the scopes around one fall -/
theorem around_fall {P : List (Option Nat)} {D : List Nat} (h : Chain P D) : ∀ (d s : Nat), D[s]? = some d → (around P d s).Pairwise fun x y => D.getD y 0 < D.getD x 0
  | 0, s, hd => by simp [around]
  | d + 1, s, hd => by
    have h0 : s ≠ 0 := fun z => by subst z; rw [h.zd] at hd; cases hd
    obtain ⟨p, e, h1, h2, h3, h4⟩ := h.up s (by omega) (by rw [h.len]; exact (List.getElem?_eq_some_iff.mp hd).1)
    have ed : d = e := by rw [h4] at hd; have := Option.some.inj hd; omega
    subst ed
    rw [around, h1]
    simp only [Option.getD_some]
    refine List.pairwise_cons.mpr ⟨fun x hx => ?_, around_fall h d p h3⟩
    obtain ⟨e, he, hle, _⟩ := around_depth h d p h3 x hx
    rw [List.getD_eq_getElem?_getD, List.getD_eq_getElem?_getD, he, hd]
    simp only [Option.getD_some]; omega
theorem around_zero {P : List (Option Nat)} {D : List Nat} (h : Chain P D) : ∀ (d s : Nat), D[s]? = some d → 0 ∈ around P d s
  | 0, s, hd => by
    by_cases h0 : s = 0
    · subst h0; simp [around]
    · obtain ⟨p, e, h1, h2, h3, h4⟩ := h.up s (by omega) (by rw [h.len]; exact (List.getElem?_eq_some_iff.mp hd).1)
      rw [h4] at hd; cases hd
  | d + 1, s, hd => by
    have h0 : s ≠ 0 := fun z => by subst z; rw [h.zd] at hd; cases hd
    obtain ⟨p, e, h1, h2, h3, h4⟩ := h.up s (by omega) (by rw [h.len]; exact (List.getElem?_eq_some_iff.mp hd).1)
    have ed : d = e := by rw [h4] at hd; have := Option.some.inj hd; omega
    subst ed
    rw [around, h1]
    exact List.mem_cons_of_mem _ (around_zero h d p h3)
theorem first_max {D : Nat → Nat} {A : List Nat} {c : Nat → Bool} (h : A.Pairwise fun x y => D y < D x) {x : Nat} (hx : (A.filter c).head? = some x) : ∀ y ∈ A, c y = true → D y ≤ D x ∧ (D y = D x → y = x) := by
  induction A with
  | nil => cases hx
  | cons a A ih =>
    obtain ⟨h1, h2⟩ := List.pairwise_cons.mp h
    intro y hy hc
    rw [List.filter_cons] at hx
    by_cases ha : c a = true
    · rw [if_pos ha] at hx
      have : a = x := by simpa using hx
      subst this
      rcases List.mem_cons.mp hy with rfl | hy
      · exact ⟨Nat.le_refl _, fun _ => rfl⟩
      · have := h1 y hy; exact ⟨by omega, fun z => by omega⟩
    · rw [if_neg ha] at hx
      rcases List.mem_cons.mp hy with rfl | hy
      · exact absurd hc ha
      · exact ih h2 hx y hy hc
/-- the first of one's scopes around the other is the first of the other's around the one -/
theorem common {P : List (Option Nat)} {D : List Nat} (h : Chain P D) {s t ds dt : Nat} (hs : D[s]? = some ds) (ht : D[t]? = some dt) :
    ∃ x, ((around P ds s).filter fun z => decide (z ∈ around P dt t)).head? = some x ∧ ((around P dt t).filter fun z => decide (z ∈ around P ds s)).head? = some x := by
  have ne : ∀ {a b da db : Nat}, D[a]? = some da → D[b]? = some db → ∃ x, ((around P da a).filter fun z => decide (z ∈ around P db b)).head? = some x := fun {a b da db} ha hb => by
    have : 0 ∈ (around P da a).filter fun z => decide (z ∈ around P db b) := List.mem_filter.mpr ⟨around_zero h _ _ ha, decide_eq_true (around_zero h _ _ hb)⟩
    cases e : (around P da a).filter fun z => decide (z ∈ around P db b) with
    | nil => rw [e] at this; cases this
    | cons x r => exact ⟨x, rfl⟩
  obtain ⟨x, hx⟩ := ne hs ht
  obtain ⟨y, hy⟩ := ne ht hs
  have mx := List.mem_filter.mp (List.mem_of_head? hx)
  have my := List.mem_filter.mp (List.mem_of_head? hy)
  have h1 := first_max (D := fun z => D.getD z 0) (around_fall h _ _ hs) hx y (of_decide_eq_true my.2) (decide_eq_true my.1)
  have h2 := first_max (D := fun z => D.getD z 0) (around_fall h _ _ ht) hy x (of_decide_eq_true mx.2) (decide_eq_true mx.1)
  have e : y = x := h1.2 (Nat.le_antisymm h1.1 h2.1)
  subst e
  exact ⟨y, hx, hy⟩
end Kc
end
section
set_option linter.all false
/-! Answers lead to their points, and no fewer do; edges and scopes; lows and common scopes. Plain Lean. -/
namespace Kc
open Ka Ka.Tree
/-- from p with the answers a, in n steps, to q -/
inductive Go (F : Nat → List Nat) : Nat → Ans → Nat → Nat → Prop
  | refl {p : Nat} : Go F p [] 0 p
  | one {p q r n : Nat} {a : Ans} : F p = [q] → Go F q a n r → Go F p a (n + 1) r
  | two {p q q' r n : Nat} {a : Ans} {y : Bool} : F p = [q, q'] → Go F (if y then q else q') a n r → Go F p (y :: a) (n + 1) r
theorem Go.snoc1 {F : Nat → List Nat} {p q r n : Nat} {a : Ans} (h : Go F p a n q) (e : F q = [r]) : Go F p a (n + 1) r := by
  induction h with
  | refl => exact .one e .refl
  | one e1 _ ih => exact .one e1 (ih e)
  | two e1 _ ih => exact .two e1 (ih e)
theorem Go.snoc2 {F : Nat → List Nat} {p q r r' n : Nat} {a : Ans} (y : Bool) (h : Go F p a n q) (e : F q = [r, r']) : Go F p (a ++ [y]) (n + 1) (if y then r else r') := by
  induction h with
  | refl => exact .two e .refl
  | one e1 _ ih => exact .one e1 (ih e)
  | two e1 _ ih => exact .two e1 (ih e)
def Gone (F : Nat → List Nat) (m : Nat) (x : Nat × Ans) : Prop := ∃ n, n ≤ m ∧ Go F 0 x.2 n x.1
theorem Gone.mono {F : Nat → List Nat} {m m' : Nat} {x : Nat × Ans} (h : Gone F m x) (l : m ≤ m') : Gone F m' x := by
  obtain ⟨n, h1, h2⟩ := h; exact ⟨n, Nat.le_trans h1 l, h2⟩
theorem wk_gone {F : Nat → List Nat} : ∀ (f p : Nat) (a : Ans) (S : Seen), Gone F S.length (p, a) → (∀ x ∈ S, Gone F S.length x) →
    (∀ x ∈ (wk F f p a S).1, Gone F (wk F f p a S).1.length x) ∧ ∀ z, (wk F f p a S).2 = some z → ∃ n, n + 1 ≤ (wk F f p a S).1.length ∧ Go F 0 a n z
  | 0, p, a, S, hp, hS => ⟨hS, fun z e => nomatch e⟩
  | f + 1, p, a, S, hp, hS => by
    unfold wk
    by_cases hs : Has S p
    · rw [if_pos hs]; exact ⟨hS, fun z e => nomatch e⟩
    · rw [if_neg hs]
      obtain ⟨n, hn, g⟩ := hp
      have h1 : ∀ x ∈ S ++ [(p, a)], Gone F (S ++ [(p, a)]).length x := fun x hx => by
        rcases List.mem_append.mp hx with hx | hx
        · exact (hS x hx).mono (by simp)
        · rw [List.mem_singleton.mp hx]; exact ⟨n, by simp; omega, g⟩
      split
      · rename_i q hq
        exact wk_gone f q a _ ⟨n + 1, by simp; omega, g.snoc1 hq⟩ h1
      · exact ⟨h1, fun z e => by cases e; exact ⟨n, by simp; omega, g⟩⟩
theorem ext_gone {F : Nat → List Nat} {N : Nat} {z n : Nat} {a : Ans} (g : Go F 0 a n z) : (F z).length = 2 ∨ (F z) = [] → ∀ x ∈ ext F z a, Gone F (n + 1) x := by
  intro hz x hx
  unfold ext at hx
  rcases hz with hz | hz
  · match h : F z with
    | [q, r] =>
      rw [h] at hx
      simp only [List.zip_cons_cons, List.zip_nil_right, List.map_cons, List.map_nil, List.mem_cons, List.not_mem_nil, or_false] at hx
      rcases hx with rfl | rfl
      · exact ⟨n + 1, Nat.le_refl _, g.snoc2 true h⟩
      · exact ⟨n + 1, Nat.le_refl _, g.snoc2 false h⟩
    | [] => rw [h] at hz; cases hz
    | [_] => rw [h] at hz; cases hz
    | _ :: _ :: _ :: _ => rw [h] at hz; simp at hz
  · rw [hz] at hx; cases hx
theorem wk_halt {F : Nat → List Nat} : ∀ (f p : Nat) (a : Ans) (S : Seen) (z : Nat), (wk F f p a S).2 = some z → (F z).length ≠ 1
  | 0, p, a, S, z, e => nomatch e
  | f + 1, p, a, S, z, e => by
    unfold wk at e
    by_cases hs : Has S p
    · rw [if_pos hs] at e; cases e
    · rw [if_neg hs] at e
      split at e
      · exact wk_halt f _ _ _ _ e
      · rename_i hq
        cases e
        intro hl
        match h : F p with
        | [q] => exact hq q h
        | [] => rw [h] at hl; cases hl
        | _ :: _ :: _ => rw [h] at hl; simp at hl
theorem rw_gone {F : Nat → List Nat} {N f : Nat} (G : Gr F N) : ∀ (R : Row) (S : Seen), (∀ x ∈ R, Gone F S.length x) → (∀ x ∈ S, Gone F S.length x) → (∃ T, (rw_ F f R S).2 = S ++ T) ∧
    (∀ x ∈ (rw_ F f R S).1, Gone F (rw_ F f R S).2.length x) ∧ ∀ x ∈ (rw_ F f R S).2, Gone F (rw_ F f R S).2.length x
  | [], S, hR, hS => ⟨⟨[], by simp [rw_]⟩, fun x hx => (by cases hx), hS⟩
  | (p, a) :: r, S, hR, hS => by
    have pre : ∀ (f p : Nat) (S : Seen), ∃ T, (wk F f p a S).1 = S ++ T := by
      intro f
      induction f with
      | zero => intro p S; exact ⟨[], by simp [wk]⟩
      | succ f ih =>
        intro p S
        unfold wk
        by_cases hs : Has S p
        · rw [if_pos hs]; exact ⟨[], by simp⟩
        · rw [if_neg hs]
          split
          · rename_i q hq
            obtain ⟨T, e⟩ := ih q (S ++ [(p, a)])
            exact ⟨(p, a) :: T, by rw [e]; simp⟩
          · exact ⟨[(p, a)], rfl⟩
    obtain ⟨T, eT⟩ := pre f p S
    have l1 : S.length ≤ (wk F f p a S).1.length := by rw [eT]; simp
    obtain ⟨h1, h2⟩ := wk_gone f p a S (hR (p, a) (by simp)) hS
    obtain ⟨⟨T2, e2⟩, h3, h4⟩ := rw_gone G r (wk F f p a S).1 (fun x hx => (hR x (by simp [hx])).mono l1) h1
    have l2 : (wk F f p a S).1.length ≤ (rw_ F f r (wk F f p a S).1).2.length := by rw [e2]; simp
    unfold rw_
    simp only
    refine ⟨⟨T ++ T2, by rw [e2, eT]; simp⟩, fun x hx => ?_, h4⟩
    rcases List.mem_append.mp hx with hx | hx
    · cases hh : (wk F f p a S).2 with
      | none => rw [hh] at hx; cases hx
      | some z =>
        rw [hh] at hx
        obtain ⟨n, hn, g⟩ := h2 z hh
        have ne := wk_halt f p a S z hh
        have two := G.two z
        refine (ext_gone (N := N) g ?_ x hx).mono (by omega)
        match h : F z with
        | [] => exact .inr rfl
        | [_] => rw [h] at ne; exact absurd rfl ne
        | [_, _] => exact .inl rfl
        | _ :: _ :: _ :: _ => rw [h] at two; simp at two
    · exact h3 x hx
theorem lv_gone {F : Nat → List Nat} {N f : Nat} (G : Gr F N) : ∀ k, (∀ x ∈ (lv F f k).1, Gone F (lv F f k).2.length x) ∧ ∀ x ∈ (lv F f k).2, Gone F (lv F f k).2.length x
  | 0 => ⟨fun x hx => (by simp [lv] at hx; subst hx; exact ⟨0, Nat.zero_le _, .refl⟩), fun x hx => (by cases hx)⟩
  | k + 1 => by
    obtain ⟨h1, h2⟩ := lv_gone G k
    exact (rw_gone G _ _ h1 h2).2
theorem lookup_mem {S : Seen} {g : Nat} {a : Ans} : S.lookup g = some a → (g, a) ∈ S := by
  induction S with
  | nil => intro z; cases z
  | cons x S ih =>
    obtain ⟨q, b⟩ := x
    rw [List.lookup_cons]
    intro z
    cases e2 : (g == q) with
    | true => rw [e2] at z; cases z; rw [eq_of_beq e2]; simp
    | false => rw [e2] at z; exact List.mem_cons_of_mem _ (ih z)
theorem ans_mem {F : Nat → List Nat} {N : Nat} (G : Gr F N) {g : Nat} (hg : g < N) (hr : Reach F 0 g) : (g, ans F N g) ∈ (lv F (N + 1) N).2 := by
  have hN : Has (lv F (N + 1) N).2 g := Decidable.byContradiction fun z => by have := lv_not G (Nat.lt_succ_self N) hg hr z; omega
  obtain ⟨a, e⟩ := lookup_has hN
  have : ans F N g = a := by unfold ans; rw [e]; rfl
  rw [this]; exact lookup_mem e
/-- the answers lead to the point, in few steps -/
theorem ans_go {F : Nat → List Nat} {N : Nat} (G : Gr F N) {g : Nat} (hg : g < N) (hr : Reach F 0 g) : ∃ n, n ≤ N ∧ Go F 0 (ans F N g) n g := by
  obtain ⟨n, h1, h2⟩ := (lv_gone (f := N + 1) G N).2 _ (ans_mem G hg hr)
  have := (lv_ok (f := N + 1) G (Nat.lt_succ_self N) N).wf.len
  exact ⟨n, by omega, h2⟩
/-- one follower is seen in the same walk -/
theorem wk_one {F : Nat → List Nat} {N : Nat} (G : Gr F N) : ∀ (f p : Nat) (a : Ans) (S : Seen), Wf N S → p < N → N < f + S.length → ∀ x q, Has (wk F f p a S).1 x → ¬ Has S x → F x = [q] → Has (wk F f p a S).1 q := by
  intro f p a S hS hp hf x q h1 h2 h3
  have := wk_ok G f p a S hS hp hf
  rcases this.clo x q h1 h2 (by rw [h3]; simp) with z | z
  · exact z
  · exact absurd (by rw [h3]; rfl) (wk_halt f p a S x z)
theorem rw_one {F : Nat → List Nat} {N f k : Nat} (G : Gr F N) (hf : N < f) : ∀ (R : Row) (S : Seen), Wf N S → (∀ x ∈ R, x.1 < N ∧ x.2.length = k) → ∀ x q, Has (rw_ F f R S).2 x → ¬ Has S x → F x = [q] → Has (rw_ F f R S).2 q
  | [], S, hS, hR, x, q, h1, h2, h3 => absurd h1 h2
  | (p, a) :: r, S, hS, hR, x, q, h1, h2, h3 => by
    have hp := hR (p, a) (by simp)
    have w := wk_ok G f p a S hS hp.1 (by omega)
    have hr : ∀ x ∈ r, x.1 < N ∧ x.2.length = k := fun x hx => hR x (by simp [hx])
    have w2 := rw_ok (k := k) G hf r (wk F f p a S).1 w.wf hr
    obtain ⟨T, eT, _⟩ := w2.pre
    unfold rw_ at h1 ⊢
    simp only at h1 ⊢
    by_cases hx : Has (wk F f p a S).1 x
    · rw [eT]; exact has_app.mpr (.inl (wk_one G f p a S hS hp.1 (by omega) x q hx h2 h3))
    · exact rw_one G hf r _ w.wf hr x q h1 hx h3
theorem lv_one {F : Nat → List Nat} {N f : Nat} (G : Gr F N) (hf : N < f) : ∀ k x q, Has (lv F f k).2 x → F x = [q] → Has (lv F f k).2 q
  | 0, x, q, h, _ => by cases h
  | k + 1, x, q, h, e => by
    have l := lv_ok G hf k
    obtain ⟨T, eT⟩ := lv_pre G hf k
    by_cases hx : Has (lv F f k).2 x
    · rw [eT]; exact has_app.mpr (.inl (lv_one G hf k x q hx e))
    · exact rw_one G hf _ _ l.wf l.lt x q h hx e
theorem lv_len {F : Nat → List Nat} {N f : Nat} (G : Gr F N) (hf : N < f) : ∀ k x, x ∈ (lv F f k).2 → Has (lv F f (x.2.length + 1)).2 x.1
  | 0, x, h => by cases h
  | k + 1, x, h => by
    have l := lv_ok G hf k
    have w := rw_ok G hf _ _ l.wf l.lt
    obtain ⟨T, eT, aT⟩ := w.pre
    have h' : x ∈ (rw_ F f (lv F f k).1 (lv F f k).2).2 := h
    rw [eT] at h'
    rcases List.mem_append.mp h' with z | z
    · exact lv_len G hf k x z
    · rw [aT x z]
      show Has (lv F f (k + 1)).2 x.1
      exact List.mem_map.mpr ⟨x, h, rfl⟩
theorem ans_lt {F : Nat → List Nat} {N k : Nat} (G : Gr F N) {g : Nat} (hg : g < N) (hr : Reach F 0 g) (h : Has (lv F (N + 1) k).2 g) : (ans F N g).length < k := by
  obtain ⟨a, e⟩ := lookup_has h
  rw [ans_of G hg hr e]
  exact (lv_ok G (Nat.lt_succ_self N) k).ans _ (lookup_mem e)
/-- a follower needs no more answers, one of two at most one more -/
theorem ans_step {F : Nat → List Nat} {N : Nat} (G : Gr F N) {p q : Nat} (hp : p < N) (hr : Reach F 0 p) (e : q ∈ F p) : (ans F N q).length ≤ (ans F N p).length + (if (F p).length = 2 then 1 else 0) := by
  have hq := G.lt p q e
  have hrq : Reach F 0 q := .step hr e
  have hm := lv_len G (Nat.lt_succ_self N) N _ (ans_mem G hp hr)
  simp only at hm
  by_cases h2 : (F p).length = 2
  · rw [if_pos h2]
    rcases (lv_ok G (Nat.lt_succ_self N) _).clo p q hm e with z | z
    · have := ans_lt G hq hrq z; omega
    · have l := lv_ok G (Nat.lt_succ_self N) ((ans F N p).length + 1)
      have w := rw_ok G (Nat.lt_succ_self N) _ _ l.wf l.lt
      have : Has (lv F (N + 1) ((ans F N p).length + 1 + 1)).2 q := w.has q z
      have := ans_lt G hq hrq this; omega
  · rw [if_neg h2]
    have two := G.two p
    have : F p = [q] := by
      match h : F p with
      | [] => rw [h] at e; cases e
      | [x] => rw [h] at e; rw [List.mem_singleton.mp e]
      | [_, _] => rw [h] at h2; exact absurd rfl h2
      | _ :: _ :: _ :: _ => rw [h] at two; simp at two
    have := ans_lt G hq hrq (lv_one G (Nat.lt_succ_self N) _ p q hm this); omega
theorem ans_zero {F : Nat → List Nat} {N : Nat} (G : Gr F N) : ans F N 0 = [] := by
  have l := lv_ok G (Nat.lt_succ_self N) 0
  have w := rw_ok G (Nat.lt_succ_self N) _ _ l.wf l.lt
  have : Has (lv F (N + 1) (0 + 1)).2 0 := w.has 0 (by simp [Pt, lv])
  have := ans_lt G G.z .refl this
  exact List.length_eq_zero_iff.mp (by omega)
end Kc
end
section
set_option linter.all false
/-! What the edges of a tree do to scopes and depths; lows and common scopes. Plain Lean. -/
namespace Kc
open Ka Ka.Tree
/-- an edge and the scopes of its points -/
def EdgeSc (sc : Nat → Nat) (par : Nat → Option Nat) (e : Edge) : Prop := match e.l with
  | .enter m => sc e.t = m ∧ par m = some (sc e.s)
  | .leave m => sc e.s = m ∧ par m = some (sc e.t)
  | _ => sc e.t = sc e.s
structure Sits (sc : Nat → Nat) (par : Nat → Option Nat) (T : Tree) (k s n : Nat) : Prop where
  p : ∀ i x, (s :: T.pts s n)[i]? = some x → sc (k + i) = x
  q : ∀ i x, (T.parents s n)[i]? = some x → par (n + i) = some x
theorem Sits.head {sc : Nat → Nat} {par : Nat → Option Nat} {T : Tree} {k s n : Nat} (h : Sits sc par T k s n) : sc k = s := h.p 0 s rfl
theorem Sits.ln {sc : Nat → Nat} {par : Nat → Option Nat} {l : Ln} {r : Tree} {k s n : Nat} (h : Sits sc par (.ln l r) k s n) : Sits sc par r (k + 1) s n where
  p := fun i x e => by rw [Nat.add_assoc, Nat.add_comm 1 i]; exact h.p (i + 1) x e
  q := h.q
/-- one scope's body, and what stands behind -/
theorem sits_body {sc : Nat → Nat} {par : Nat → Option Nat} {b : Tree} {k n m : Nat} {rest : List Nat} (hp : ∀ i x, (n :: (b.pts n m ++ rest))[i]? = some x → sc (k + i) = x) (hq : ∀ i x, (b.parents n m)[i]? = some x → par (m + i) = some x) :
    Sits sc par b k n m ∧ ∀ i x, rest[i]? = some x → sc (k + 1 + b.len + i) = x := by
  refine ⟨⟨fun i x e => hp i x ?_, hq⟩, fun i x e => ?_⟩
  · rw [← List.cons_append, List.getElem?_append_left (List.getElem?_eq_some_iff.mp e).1]; exact e
  · have := hp (1 + b.len + i) x (by rw [← List.cons_append, List.getElem?_append_right (by simp [pts_len]; omega)]; rw [← e]; congr 1; simp [pts_len]; omega)
    rw [← this]; congr 1 <;> omega
theorem getq {a b : List Nat} {n : Nat} {par : Nat → Option Nat} (h : ∀ i x, (a ++ b)[i]? = some x → par (n + i) = some x) : (∀ i x, a[i]? = some x → par (n + i) = some x) ∧ ∀ i x, b[i]? = some x → par (n + a.length + i) = some x := by
  refine ⟨fun i x e => h i x (by rw [List.getElem?_append_left (List.getElem?_eq_some_iff.mp e).1]; exact e), fun i x e => ?_⟩
  rw [Nat.add_assoc]
  exact h (a.length + i) x (by rw [List.getElem?_append_right (Nat.le_add_right _ _), Nat.add_sub_cancel_left]; exact e)
theorem getc {a : Nat} {b : List Nat} {n : Nat} {par : Nat → Option Nat} (h : ∀ i x, (a :: b)[i]? = some x → par (n + i) = some x) : par n = some a ∧ ∀ i x, b[i]? = some x → par (n + 1 + i) = some x := by
  refine ⟨h 0 a rfl, fun i x e => ?_⟩
  have := h (i + 1) x e
  rw [← this]; congr 1 <;> omega
theorem Sits.blk {sc : Nat → Nat} {par : Nat → Option Nat} {w : Bool} {b r : Tree} {k s n : Nat} (h : Sits sc par (.blk w b r) k s n) :
    Sits sc par b (k + 1) n (n + 1) ∧ Sits sc par r (k + 2 + b.len) s (n + 1 + b.nsc) ∧ par n = some s := by
  obtain ⟨hp, hq⟩ := h
  simp only [pts, parents] at hp hq
  obtain ⟨q0, q1⟩ := getc hq
  obtain ⟨q2, q3⟩ := getq q1
  obtain ⟨hb, hr⟩ := sits_body (k := k + 1) (b := b) (rest := s :: r.pts s (n + 1 + b.nsc)) (fun i x e => by
    rw [Nat.add_assoc, Nat.add_comm 1 i]; exact hp (i + 1) x e) q2
  refine ⟨hb, ⟨fun i x e => ?_, fun i x e => ?_⟩, q0⟩
  · rw [← hr i x e]
  · rw [parents_len] at q3; exact q3 i x e
theorem Sits.br {sc : Nat → Nat} {par : Nat → Option Nat} {a b r : Tree} {k s n : Nat} (h : Sits sc par (.br a b r) k s n) :
    Sits sc par a (k + 1) n (n + 1) ∧ Sits sc par b (k + 2 + a.len) (n + 1 + a.nsc) (n + 2 + a.nsc) ∧ Sits sc par r (k + 3 + a.len + b.len) s (n + 2 + a.nsc + b.nsc) ∧ par n = some s ∧ par (n + 1 + a.nsc) = some s := by
  obtain ⟨hp, hq⟩ := h
  simp only [pts, parents] at hp hq
  obtain ⟨q0, q1⟩ := getc hq
  obtain ⟨q2, q3⟩ := getq q1
  rw [parents_len] at q3
  obtain ⟨q4, q5⟩ := getc q3
  rw [show n + 1 + a.nsc + 1 = n + 2 + a.nsc by omega] at q5
  obtain ⟨q6, q7⟩ := getq q5
  rw [parents_len] at q7
  obtain ⟨ha, h2⟩ := sits_body (k := k + 1) (b := a) (rest := (n + 1 + a.nsc) :: (b.pts (n + 1 + a.nsc) (n + 2 + a.nsc) ++ s :: r.pts s (n + 2 + a.nsc + b.nsc))) (fun i x e => by
    rw [Nat.add_assoc, Nat.add_comm 1 i]; exact hp (i + 1) x e) q2
  obtain ⟨hb, h3⟩ := sits_body (k := k + 2 + a.len) (b := b) (rest := s :: r.pts s (n + 2 + a.nsc + b.nsc)) (fun i x e => by
    rw [← h2 i x e]) q6
  refine ⟨ha, hb, ⟨fun i x e => ?_, q7⟩, q0, q4⟩
  rw [← h3 i x e]; congr 1; omega
/-- the scope at the end of a tree is that at its beginning -/
theorem Sits.last {sc : Nat → Nat} {par : Nat → Option Nat} {T : Tree} {k s n : Nat} (h : Sits sc par T k s n) : sc (k + T.len) = s := by
  refine h.p T.len s ?_
  rw [pts_lsc, List.getElem?_append_right (by rw [lsc_len]; exact Nat.le_refl _), lsc_len, Nat.sub_self]; rfl
theorem edge_sc {sc : Nat → Nat} {par : Nat → Option Nat} (T : Tree) : ∀ k s n, Sits sc par T k s n → ∀ e ∈ T.pE k n, EdgeSc sc par e := by
  induction T with
  | nil => intro k s n _ e h; cases h
  | ln l r ih =>
    intro k s n h e he
    simp only [pE, List.mem_cons] at he
    rcases he with rfl | he
    · show sc (k + 1) = sc k
      rw [h.head, h.ln.head]
    · exact ih _ _ _ h.ln e he
  | blk w b r ihb ihr =>
    intro k s n h e he
    obtain ⟨hb, hr, h0⟩ := h.blk
    have hk := h.head
    have hb0 := hb.head
    have hbl := hb.last
    have hr0 := hr.head
    simp only [pE, List.mem_cons, List.mem_append] at he
    rcases he with rfl | he | he | rfl | he
    · exact ⟨hb0, by rw [hk]; exact h0⟩
    · cases w
      · cases he
      · simp only [if_true, List.mem_singleton] at he; subst he
        show sc (k + 2 + b.len) = sc k
        rw [hr0, hk]
    · exact ihb _ _ _ hb e he
    · refine ⟨hbl, ?_⟩
      show par n = some (sc (if w then k else k + 2 + b.len))
      cases w
      · simp only [if_false, Bool.false_eq_true]; rw [hr0]; exact h0
      · simp only [if_true]; rw [hk]; exact h0
    · exact ihr _ _ _ hr e he
  | br a b r iha ihb ihr =>
    intro k s n h e he
    obtain ⟨ha, hb, hr, h0, h1⟩ := h.br
    have hk := h.head
    have ha0 := ha.head
    have hal := ha.last
    have hb0 := hb.head
    have hbl := hb.last
    have hr0 := hr.head
    simp only [pE, List.mem_cons, List.mem_append] at he
    rcases he with rfl | rfl | he | rfl | he | rfl | he
    · exact ⟨ha0, by rw [hk]; exact h0⟩
    · exact ⟨hb0, by rw [hk]; exact h1⟩
    · exact iha _ _ _ ha e he
    · exact ⟨hal, by rw [hr0]; exact h0⟩
    · exact ihb _ _ _ hb e he
    · exact ⟨hbl, by rw [hr0]; exact h1⟩
    · exact ihr _ _ _ hr e he
/-- the point's scope, the scope's parent, the point's depth -/
def scOf (T : Tree) (p : Nat) : Nat := (fin_ T).pts.getD p 0
def parOf (T : Tree) (s : Nat) : Option Nat := ((fin_ T).parents[s]?).getD none
def sdep (T : Tree) (s : Nat) : Nat := (fin_ T).depths.getD s 0
def pdep (T : Tree) (p : Nat) : Nat := sdep T (scOf T p)
theorem sits_fin (T : Tree) : Sits (scOf T) (parOf T) T 0 0 1 where
  p := fun i x e => by
    unfold scOf
    rw [Nat.zero_add, List.getD_eq_getElem?_getD]
    show (((0 :: T.pts 0 1))[i]?).getD 0 = x
    rw [e]; rfl
  q := fun i x e => by
    unfold parOf
    show ((none :: (T.parents 0 1).map some)[1 + i]?).getD none = some x
    rw [Nat.add_comm, List.getElem?_cons_succ, List.getElem?_map, e]; rfl
theorem edge_fin (T : Tree) : ∀ e ∈ T.pE 0 1, EdgeSc (scOf T) (parOf T) e := edge_sc T 0 0 1 (sits_fin T)
/-- a child is one deeper -/
theorem par_dep (T : Tree) {s p : Nat} (h : parOf T s = some p) : sdep T s = sdep T p + 1 ∧ s < (fin_ T).depths.length ∧ (fin_ T).parents[s]? = some (some p) := by
  have C := chain_fin T
  unfold parOf at h
  have e : (fin_ T).parents[s]? = some (some p) := by
    cases q : (fin_ T).parents[s]? with
    | none => rw [q] at h; cases h
    | some x => rw [q] at h; simp only [Option.getD_some] at h; rw [h]
  have hs := (List.getElem?_eq_some_iff.mp e).1
  have h0 : s ≠ 0 := fun z => by subst z; rw [C.zero] at e; cases e
  obtain ⟨q, d, h1, h2, h3, h4⟩ := C.up s (by omega) hs
  rw [h1] at e; cases e
  refine ⟨?_, by rw [← C.len]; exact hs, h1⟩
  unfold sdep
  rw [List.getD_eq_getElem?_getD, List.getD_eq_getElem?_getD, h3, h4]; rfl
/-- the change of depth by the label -/
theorem edge_dep (T : Tree) {e : Edge} (he : e ∈ T.pE 0 1) : (∀ m, e.l = .enter m → pdep T e.t = pdep T e.s + 1) ∧ (∀ m, e.l = .leave m → pdep T e.s = pdep T e.t + 1) ∧ ((∀ m, e.l ≠ .enter m) → (∀ m, e.l ≠ .leave m) → pdep T e.t = pdep T e.s) := by
  have h := edge_fin T e he
  unfold EdgeSc at h
  unfold pdep
  cases q : e.l with
  | line l => rw [q] at h; simp only at h; exact ⟨fun m z => (nomatch z), fun m z => (nomatch z), fun _ _ => by rw [h]⟩
  | enter m =>
    rw [q] at h; simp only at h
    refine ⟨fun m' z => ?_, fun m z => (nomatch z), fun z _ => absurd rfl (z m)⟩
    rw [h.1]; exact (par_dep T h.2).1
  | leave m =>
    rw [q] at h; simp only at h
    refine ⟨fun m z => (nomatch z), fun m' z => ?_, fun _ z => absurd rfl (z m)⟩
    rw [h.1]; exact (par_dep T h.2).1
  | pass => rw [q] at h; simp only at h; exact ⟨fun m z => (nomatch z), fun m z => (nomatch z), fun _ _ => by rw [h]⟩
/-- an edge that leads back is the end of a body, and leads to a question -/
theorem edge_back (T : Tree) : ∀ k n e, e ∈ T.pE k n → e.t ≤ e.s → (∃ m, e.l = .leave m) ∧ 2 ≤ ((T.pE k n).filter (from_ e.t)).length := by
  have sub : ∀ {l m : List Edge} {p : Nat}, l.Sublist m → 2 ≤ (l.filter (from_ p)).length → 2 ≤ (m.filter (from_ p)).length := fun h g => Nat.le_trans g (h.filter _).length_le
  induction T with
  | nil => intro k n e h; cases h
  | ln l r ih =>
    intro k n e h hb
    simp only [pE, List.mem_cons] at h
    rcases h with rfl | h
    · simp only at hb; omega
    · have := ih _ _ e h hb
      exact ⟨this.1, sub (List.sublist_cons_self _ _) this.2⟩
  | blk w b r ihb ihr =>
    intro k n e h hb
    simp only [pE, List.mem_cons, List.mem_append] at h
    rcases h with rfl | h | h | rfl | h
    · simp only at hb; omega
    · cases w
      · cases h
      · simp only [if_true, List.mem_singleton] at h; subst h; simp only at hb; omega
    · have := ihb _ _ e h hb
      refine ⟨this.1, sub ?_ this.2⟩
      simp only [pE]
      exact ((List.sublist_append_left _ _).trans (List.sublist_append_right _ _)).cons _
    · cases w
      · simp only [if_false, Bool.false_eq_true] at hb; omega
      · refine ⟨⟨n, rfl⟩, ?_⟩
        simp only [pE, if_true]
        rw [fp, List.cons_append, fp]; simp
    · have := ihr _ _ e h hb
      refine ⟨this.1, sub ?_ this.2⟩
      simp only [pE]
      exact ((((List.sublist_cons_self _ _).trans (List.sublist_append_right _ _)).trans (List.sublist_append_right _ _)).cons _)
  | br a b r iha ihb ihr =>
    intro k n e h hb
    simp only [pE, List.mem_cons, List.mem_append] at h
    rcases h with rfl | rfl | h | rfl | h | rfl | h
    · simp only at hb; omega
    · simp only at hb; omega
    · have := iha _ _ e h hb
      refine ⟨this.1, sub ?_ this.2⟩
      simp only [pE]
      exact ((List.sublist_append_left _ _).cons _).cons _
    · simp only at hb; omega
    · have := ihb _ _ e h hb
      refine ⟨this.1, sub ?_ this.2⟩
      simp only [pE]
      exact (((((List.sublist_append_left _ _)).cons _).trans (List.sublist_append_right _ _)).cons _).cons _
    · simp only at hb; omega
    · have := ihr _ _ e h hb
      refine ⟨this.1, sub ?_ this.2⟩
      simp only [pE]
      exact (((((List.sublist_cons_self _ _).trans (List.sublist_append_right _ _)).cons _).trans (List.sublist_append_right _ _)).cons _).cons _
/-- from each point but the last one an edge leads -/
theorem edge_from (T : Tree) : ∀ k n p, k ≤ p → p < k + T.len → ∃ e ∈ T.pE k n, e.s = p := by
  induction T with
  | nil => intro k n p h1 h2; simp only [len] at h2; omega
  | ln l r ih =>
    intro k n p h1 h2
    simp only [len] at h2
    by_cases hp : p = k
    · exact ⟨⟨k, .line l, k + 1⟩, by simp [pE], hp.symm⟩
    · obtain ⟨e, he, hs⟩ := ih (k + 1) n p (by omega) (by omega)
      exact ⟨e, by simp [pE, he], hs⟩
  | blk w b r ihb ihr =>
    intro k n p h1 h2
    simp only [len] at h2
    by_cases hp : p = k
    · exact ⟨⟨k, .enter n, k + 1⟩, by simp [pE], hp.symm⟩
    · by_cases hp2 : p < k + 1 + b.len
      · obtain ⟨e, he, hs⟩ := ihb (k + 1) (n + 1) p (by omega) hp2
        exact ⟨e, by simp [pE, he], hs⟩
      · by_cases hp3 : p = k + 1 + b.len
        · exact ⟨⟨k + 1 + b.len, .leave n, if w then k else k + 2 + b.len⟩, by simp [pE], hp3.symm⟩
        · obtain ⟨e, he, hs⟩ := ihr (k + 2 + b.len) (n + 1 + b.nsc) p (by omega) (by omega)
          exact ⟨e, by simp [pE, he], hs⟩
  | br a b r iha ihb ihr =>
    intro k n p h1 h2
    simp only [len] at h2
    by_cases hp : p = k
    · exact ⟨⟨k, .enter n, k + 1⟩, by simp [pE], hp.symm⟩
    · by_cases hp2 : p < k + 1 + a.len
      · obtain ⟨e, he, hs⟩ := iha (k + 1) (n + 1) p (by omega) hp2
        exact ⟨e, by simp [pE, he], hs⟩
      · by_cases hp3 : p = k + 1 + a.len
        · exact ⟨⟨k + 1 + a.len, .leave n, k + 3 + a.len + b.len⟩, by simp [pE], hp3.symm⟩
        · by_cases hp4 : p < k + 2 + a.len + b.len
          · obtain ⟨e, he, hs⟩ := ihb (k + 2 + a.len) (n + 2 + a.nsc) p (by omega) hp4
            exact ⟨e, by simp [pE, he], hs⟩
          · by_cases hp5 : p = k + 2 + a.len + b.len
            · exact ⟨⟨k + 2 + a.len + b.len, .leave (n + 1 + a.nsc), k + 3 + a.len + b.len⟩, by simp [pE], hp5.symm⟩
            · obtain ⟨e, he, hs⟩ := ihr (k + 3 + a.len + b.len) (n + 2 + a.nsc + b.nsc) p (by omega) (by omega)
              exact ⟨e, by simp [pE, he], hs⟩
theorem fol_nil {T : Tree} {p : Nat} (hp : p ≤ T.len) : fol T p = [] ↔ p = T.len := by
  constructor
  · intro h
    apply Decidable.byContradiction
    intro hn
    obtain ⟨e, he, hs⟩ := edge_from T 0 1 p (Nat.zero_le _) (by omega)
    have := mem_fol.mpr ⟨e, he, hs, rfl⟩
    rw [h] at this; cases this
  · rintro rfl
    apply List.eq_nil_iff_forall_not_mem.mpr
    intro q hq
    obtain ⟨e, he, hs, _⟩ := mem_fol.mp hq
    have := pE_range T 0 1 e he; omega
theorem fol_len (T : Tree) (p : Nat) : (fol T p).length ≤ 2 := (gr_fol T).two p
/-- the scopes of the points of an edge -/
theorem edge_near (T : Tree) {e : Edge} (he : e ∈ T.pE 0 1) : scOf T e.t = scOf T e.s ∨ parOf T (scOf T e.t) = some (scOf T e.s) ∨ parOf T (scOf T e.s) = some (scOf T e.t) := by
  have h := edge_fin T e he
  unfold EdgeSc at h
  cases q : e.l with
  | line l => rw [q] at h; exact .inl h
  | enter m => rw [q] at h; exact .inr (.inl (by rw [h.1]; exact h.2))
  | leave m => rw [q] at h; exact .inr (.inr (by rw [h.1]; exact h.2))
  | pass => rw [q] at h; exact .inl h
abbrev arnd (T : Tree) (s : Nat) : List Nat := around (fin_ T).parents 6 s
theorem arnd_up (T : Tree) {s p d : Nat} (h : parOf T s = some p) (hd : (fin_ T).depths[s]? = some d) (h6 : d ≤ 6) : arnd T s = s :: arnd T p := by
  have C := chain_fin T
  obtain ⟨h1, h2, h3⟩ := par_dep T h
  have h0 : s ≠ 0 := fun z => by subst z; rw [C.zero] at h3; cases h3
  obtain ⟨q, e, g1, g2, g3, g4⟩ := C.up s (by omega) (by rw [C.len]; exact h2)
  rw [g1] at h3; cases h3
  rw [g4] at hd; cases hd
  show around (fin_ T).parents 6 s = s :: around (fin_ T).parents 6 p
  rw [(around_all C (e + 1) 6 s g4 h6).2, (around_all C e 6 p g3 (by omega)).2, around, g1]; rfl
theorem sdep_get (T : Tree) {s : Nat} (h : s < (fin_ T).depths.length) : (fin_ T).depths[s]? = some (sdep T s) := by
  unfold sdep; rw [List.getD_eq_getElem?_getD, List.getElem?_eq_getElem h]; rfl
/-- along an edge of no lesser depth the scope of that depth stays -/
theorem near_same (T : Tree) {a b m x : Nat} (ha : a < (fin_ T).depths.length) (hb : b < (fin_ T).depths.length) (h6a : sdep T a ≤ 6) (h6b : sdep T b ≤ 6) (h : b = a ∨ parOf T b = some a ∨ parOf T a = some b) (ma : m ≤ sdep T a) (mb : m ≤ sdep T b) (hx : sdep T x = m) : x ∈ arnd T a ↔ x ∈ arnd T b := by
  rcases h with rfl | h | h
  · exact Iff.rfl
  · have e := arnd_up T h (sdep_get T hb) h6b
    have d := (par_dep T h).1
    rw [e, List.mem_cons]
    refine ⟨.inr, fun z => z.elim (fun z => ?_) id⟩
    subst z; omega
  · have e := arnd_up T h (sdep_get T ha) h6a
    have d := (par_dep T h).1
    rw [e, List.mem_cons]
    refine ⟨fun z => z.elim (fun z => ?_) id, .inr⟩
    subst z; omega
theorem has_depth {P : List (Option Nat)} {D : List Nat} (h : Chain P D) : ∀ (d s m : Nat), D[s]? = some d → m ≤ d → ∃ x ∈ around P d s, D[x]? = some m
  | 0, s, m, hd, hm => ⟨s, by simp [around], by rw [hd]; congr 1 <;> omega⟩
  | d + 1, s, m, hd, hm => by
    by_cases e : m = d + 1
    · exact ⟨s, by simp [around], by rw [hd, e]⟩
    · have h0 : s ≠ 0 := fun z => by subst z; rw [h.zd] at hd; cases hd
      obtain ⟨p, e', h1, h2, h3, h4⟩ := h.up s (by omega) (by rw [h.len]; exact (List.getElem?_eq_some_iff.mp hd).1)
      have ed : d = e' := by rw [h4] at hd; have := Option.some.inj hd; omega
      subst ed
      obtain ⟨x, hx, hxm⟩ := has_depth h d p m h3 (by omega)
      refine ⟨x, ?_, hxm⟩
      rw [around, h1]; exact List.mem_cons_of_mem _ hx
/-- a low is never above the depth of the common scope -/
theorem low_common (T : Tree) {p q m x : Nat} (sm : ∀ s ∈ (fin_ T).pts, s < (fin_ T).depths.length) (h6 : ∀ s, sdep T s ≤ 6) (hp : p ≤ T.len) (hq : q ≤ T.len)
    (h : lowOk T (pdep T) p q m) (hx : ((arnd T (scOf T q)).filter fun z => decide (z ∈ arnd T (scOf T p))).head? = some x) : m ≤ sdep T x := by
  have C := chain_fin T
  have sc : ∀ {r}, r ≤ T.len → scOf T r < (fin_ T).depths.length := fun {r} hr => by
    have hl : r < (fin_ T).pts.length := by show r < (0 :: T.pts 0 1).length; simp [pts_len]; omega
    unfold scOf
    rw [List.getD_eq_getElem?_getD, List.getElem?_eq_getElem hl]
    exact sm _ (List.getElem_mem hl)
  obtain ⟨hm, y, h1, h2, h3⟩ := lowOk_law.mp h
  have path : ∀ {a b}, RL (fol T) (fun y => decide (m ≤ pdep T y)) a b → a ≤ T.len → m ≤ pdep T a → (b ≤ T.len ∧ m ≤ pdep T b) ∧ ∀ z, sdep T z = m → (z ∈ arnd T (scOf T a) ↔ z ∈ arnd T (scOf T b)) := fun {a b} r ha hma => by
    induction r with
    | refl => exact ⟨⟨ha, hma⟩, fun z _ => Iff.rfl⟩
    | step r e o ih =>
      obtain ⟨⟨i1, i2⟩, i3⟩ := ih
      obtain ⟨ed, he, hs, ht⟩ := mem_fol.mp e
      have o' := of_decide_eq_true o
      have rl := pE_range T 0 1 ed he
      refine ⟨⟨by omega, o'⟩, fun z hz => (i3 z hz).trans ?_⟩
      have near := edge_near T he
      rw [hs, ht] at near
      exact near_same T (sc i1) (sc (by omega)) (h6 _) (h6 _) near i2 o' hz
  obtain ⟨⟨y1, y2⟩, k1⟩ := path h1 hp hm
  obtain ⟨⟨q1, q2⟩, k2⟩ := path h3 y1 y2
  have dp := sdep_get T (sc hp)
  have dq := sdep_get T (sc hq)
  obtain ⟨z, hz1, hz2⟩ := has_depth C (sdep T (scOf T p)) (scOf T p) m dp hm
  have ea : arnd T (scOf T p) = around (fin_ T).parents (sdep T (scOf T p)) (scOf T p) := (around_all C _ 6 _ dp (h6 _)).2
  have eb : arnd T (scOf T q) = around (fin_ T).parents (sdep T (scOf T q)) (scOf T q) := (around_all C _ 6 _ dq (h6 _)).2
  have zm : sdep T z = m := by unfold sdep; rw [List.getD_eq_getElem?_getD, hz2]; rfl
  have za : z ∈ arnd T (scOf T p) := by rw [ea]; exact hz1
  have zb : z ∈ arnd T (scOf T q) := (k2 z zm).mp ((k1 z zm).mp za)
  have fall : (arnd T (scOf T q)).Pairwise fun x y => sdep T y < sdep T x := by rw [eb]; exact around_fall C _ _ dq
  have := (first_max (D := sdep T) fall hx z zb (decide_eq_true za)).1
  omega
theorem low_self (T : Tree) (p : Nat) : lowOk T (pdep T) p p (pdep T p) := ⟨by omega, p, .refl, rfl, .refl⟩
theorem low_next (T : Tree) {p q : Nat} (h : fol T p = [q]) (d : pdep T p = pdep T q) : lowOk T (pdep T) p q (pdep T p) :=
  lowOk_law.mpr ⟨Nat.le_refl _, p, .refl, rfl, .step .refl (by rw [h]; simp) (decide_eq_true (by omega))⟩
end Kc
end
section
set_option linter.all false
/-! The depth of each line, as Layout tells it and as the law does. Plain Lean. -/
namespace Kc
open Ka Ka.Tree
theorem join_cons {α : Type} {P : Nat → α → Prop} {a : α} {b : List α} {n : Nat} (h : P n a) (g : ∀ i x, b[i]? = some x → P (n + 1 + i) x) : ∀ i x, (a :: b)[i]? = some x → P (n + i) x
  | 0, x, e => by cases e; exact h
  | i + 1, x, e => by rw [show n + (i + 1) = n + 1 + i by omega]; exact g i x e
theorem join_app {α : Type} {P : Nat → α → Prop} {a b : List α} {n : Nat} (h : ∀ i x, a[i]? = some x → P (n + i) x) (g : ∀ i x, b[i]? = some x → P (n + a.length + i) x) : ∀ i x, (a ++ b)[i]? = some x → P (n + i) x := fun i x e => by
  by_cases hi : i < a.length
  · rw [List.getElem?_append_left hi] at e; exact h i x e
  · rw [List.getElem?_append_right (by omega)] at e
    have := g _ x e
    rwa [show n + a.length + (i - a.length) = n + i by omega] at this
theorem look_l {a b : List (Nat × Nat)} {j : Nat} (h : ∀ p ∈ b, p.1 ≠ j) : (a ++ b).lookup j = a.lookup j := by
  induction a with
  | nil =>
    induction b with
    | nil => rfl
    | cons p b ih =>
      obtain ⟨x, y⟩ := p
      have h1 : x ≠ j := h _ (List.mem_cons_self ..)
      have := ih fun q hq => h q (List.mem_cons_of_mem _ hq)
      simp only [List.nil_append, List.lookup_nil] at this ⊢
      rw [List.lookup_cons, show (j == x) = false from beq_eq_false_iff_ne.mpr (fun e => h1 e.symm)]
      exact this
  | cons p a ih =>
    obtain ⟨x, y⟩ := p
    simp only [List.cons_append, List.lookup_cons]
    split
    · rfl
    · exact ih
theorem look_r {a b : List (Nat × Nat)} {j : Nat} (h : ∀ p ∈ a, p.1 ≠ j) : (a ++ b).lookup j = b.lookup j := by
  induction a with
  | nil => rfl
  | cons p a ih =>
    obtain ⟨x, y⟩ := p
    have h1 : x ≠ j := h _ (List.mem_cons_self ..)
    rw [List.cons_append, List.lookup_cons, show (j == x) = false from beq_eq_false_iff_ne.mpr (fun e => h1 e.symm)]
    exact ih fun q hq => h q (List.mem_cons_of_mem _ hq)
theorem look_h {b : List (Nat × Nat)} {j m : Nat} : ((j, m) :: b).lookup j = some m := by rw [List.lookup_cons]; simp
theorem look_n {b : List (Nat × Nat)} {j : Nat} (h : ∀ p ∈ b, p.1 ≠ j) : b.lookup j = none := by
  have := look_l (a := []) h
  simpa using this
theorem look_c {b : List (Nat × Nat)} {j x m : Nat} (h : x ≠ j) : ((x, m) :: b).lookup j = b.lookup j := by
  rw [List.lookup_cons, show (j == x) = false from beq_eq_false_iff_ne.mpr (fun e => h e.symm)]
theorem ended_range (T : Tree) : ∀ k n, ∀ p ∈ T.ended k n, k ≤ p.1 ∧ p.1 < k + T.len := by
  induction T with
  | nil => intro k n p h; cases h
  | ln l r ih =>
    intro k n p h
    simp only [ended, len] at h ⊢
    have := ih _ _ p h; omega
  | blk w b r ihb ihr =>
    intro k n p h
    simp only [ended, len, List.mem_append, List.mem_cons] at h ⊢
    rcases h with h | rfl | h
    · have := ihb _ _ p h; omega
    · simp only; omega
    · have := ihr _ _ p h; omega
  | br a b r iha ihb ihr =>
    intro k n p h
    simp only [ended, len, List.mem_append, List.mem_cons] at h ⊢
    rcases h with h | rfl | h | rfl | h
    · have := iha _ _ p h; omega
    · simp only; omega
    · have := ihb _ _ p h; omega
    · simp only; omega
    · have := ihr _ _ p h; omega
theorem ldeps_length (T : Tree) : ∀ d, (T.ldeps d).length = T.len := by
  induction T with
  | nil => intro d; rfl
  | ln l r ih => intro d; simp [ldeps, len, ih]; omega
  | blk w b r ihb ihr => intro d; simp [ldeps, len, ihb, ihr]; omega
  | br a b r iha ihb ihr => intro d; simp [ldeps, len, iha, ihb, ihr]; omega
/-- what Layout tells of a line -/
def LdV (lk : Nat → Option Nat) (sc : Nat → Nat) (par : Nat → Option Nat) (dep : Nat → Nat) (j v : Nat) : Prop :=
  (∃ m p, lk j = some m ∧ par m = some p ∧ dep p = v) ∨ (lk j = none ∧ dep (sc j) = v)
theorem ld_tree {lk : Nat → Option Nat} {sc : Nat → Nat} {par : Nat → Option Nat} {dep : Nat → Nat} (hdep : ∀ m p, par m = some p → dep m = dep p + 1) (T : Tree) : ∀ k s n d, Sits sc par T k s n → dep s = d →
    (∀ j, k ≤ j → j < k + T.len → lk j = (T.ended k n).lookup j) → ∀ i v, (T.ldeps d)[i]? = some v → LdV lk sc par dep (k + i) v := by
  induction T with
  | nil => intro k s n d _ _ _ i v e; simp [ldeps] at e
  | ln l r ih =>
    intro k s n d S hd hl
    simp only [ldeps, len, ended] at hl ⊢
    refine join_cons (P := LdV lk sc par dep) (.inr ⟨?_, by rw [S.head]; exact hd⟩) (ih (k + 1) s n d S.ln hd fun j h1 h2 => hl j (by omega) (by omega))
    rw [hl k (by omega) (by omega)]
    exact look_n fun p hp => by have := ended_range r _ _ p hp; omega
  | blk w b r ihb ihr =>
    intro k s n d S hd hl
    obtain ⟨Sb, Sr, pn⟩ := S.blk
    simp only [ldeps, len, ended] at hl ⊢
    have lb := ldeps_length b (d + 1)
    refine join_cons (P := LdV lk sc par dep) (.inr ⟨?_, by rw [S.head]; exact hd⟩) (join_app (P := LdV lk sc par dep) (ihb (k + 1) n (n + 1) (d + 1) Sb (by rw [hdep n s pn, hd]) fun j h1 h2 => ?_) (join_cons (P := LdV lk sc par dep) (.inl ⟨n, s, ?_, pn, hd⟩) ?_))
    · rw [hl k (by omega) (by omega)]
      refine look_n fun p hp => ?_
      rcases List.mem_append.mp hp with hp | hp
      · have := ended_range b _ _ p hp; omega
      · rcases List.mem_cons.mp hp with rfl | hp
        · simp only; omega
        · have := ended_range r _ _ p hp; omega
    · rw [hl j (by omega) (by omega)]
      refine look_l fun p hp => ?_
      rcases List.mem_cons.mp hp with rfl | hp
      · simp only; omega
      · have := ended_range r _ _ p hp; omega
    · rw [lb, hl _ (by omega) (by omega), look_r (fun p hp => by have := ended_range b _ _ p hp; omega)]
      exact look_h
    · rw [lb, show k + 1 + b.len + 1 = k + 2 + b.len by omega]
      refine ihr (k + 2 + b.len) s (n + 1 + b.nsc) d Sr hd fun j h1 h2 => ?_
      rw [hl j (by omega) (by omega), look_r (fun p hp => by have := ended_range b _ _ p hp; omega), look_c (by omega)]
  | br a b r iha ihb ihr =>
    intro k s n d S hd hl
    obtain ⟨Sa, Sb, Sr, pn, pm⟩ := S.br
    simp only [ldeps, len, ended] at hl ⊢
    have la := ldeps_length a (d + 1)
    have lb := ldeps_length b (d + 1)
    refine join_cons (P := LdV lk sc par dep) (.inr ⟨?_, by rw [S.head]; exact hd⟩) (join_app (P := LdV lk sc par dep) (iha (k + 1) n (n + 1) (d + 1) Sa (by rw [hdep n s pn, hd]) fun j h1 h2 => ?_) (join_cons (P := LdV lk sc par dep) (.inl ⟨n, s, ?_, pn, hd⟩)
      (join_app (P := LdV lk sc par dep) ?_ (join_cons (P := LdV lk sc par dep) (.inl ⟨n + 1 + a.nsc, s, ?_, pm, hd⟩) ?_))))
    · rw [hl k (by omega) (by omega)]
      refine look_n fun p hp => ?_
      simp only [List.mem_append, List.mem_cons] at hp
      rcases hp with hp | rfl | hp | rfl | hp
      · have := ended_range a _ _ p hp; omega
      · simp only; omega
      · have := ended_range b _ _ p hp; omega
      · simp only; omega
      · have := ended_range r _ _ p hp; omega
    · rw [hl j (by omega) (by omega)]
      refine look_l fun p hp => ?_
      simp only [List.mem_append, List.mem_cons] at hp
      rcases hp with rfl | hp | rfl | hp
      · simp only; omega
      · have := ended_range b _ _ p hp; omega
      · simp only; omega
      · have := ended_range r _ _ p hp; omega
    · rw [la, hl _ (by omega) (by omega), look_r (fun p hp => by have := ended_range a _ _ p hp; omega)]
      exact look_h
    · rw [la, show k + 1 + a.len + 1 = k + 2 + a.len by omega]
      refine ihb (k + 2 + a.len) (n + 1 + a.nsc) (n + 2 + a.nsc) (d + 1) Sb (by rw [hdep _ s pm, hd]) fun j h1 h2 => ?_
      rw [hl j (by omega) (by omega), look_r (fun p hp => by have := ended_range a _ _ p hp; omega), look_c (by omega)]
      refine look_l fun p hp => ?_
      rcases List.mem_cons.mp hp with rfl | hp
      · simp only; omega
      · have := ended_range r _ _ p hp; omega
    · rw [la, lb, show k + 1 + a.len + 1 + b.len = k + 2 + a.len + b.len by omega, hl _ (by omega) (by omega), look_r (fun p hp => by have := ended_range a _ _ p hp; omega), look_c (by omega), look_r (fun p hp => by have := ended_range b _ _ p hp; omega)]
      exact look_h
    · rw [la, lb, show k + 1 + a.len + 1 + b.len + 1 = k + 3 + a.len + b.len by omega]
      refine ihr (k + 3 + a.len + b.len) s (n + 2 + a.nsc + b.nsc) d Sr hd fun j h1 h2 => ?_
      rw [hl j (by omega) (by omega), look_r (fun p hp => by have := ended_range a _ _ p hp; omega), look_c (by omega), look_r (fun p hp => by have := ended_range b _ _ p hp; omega), look_c (by omega)]
/-- what Layout tells of line k, of the whole tree -/
theorem ld_fin (T : Tree) {k v : Nat} (h : (T.ldeps 0)[k]? = some v) : LdV (fun j => (fin_ T).ended.lookup j) (scOf T) (parOf T) (sdep T) k v := by
  have := ld_tree (lk := fun j => (fin_ T).ended.lookup j) (sc := scOf T) (par := parOf T) (dep := sdep T) (fun m p e => (par_dep T e).1) T 0 0 1 0 (sits_fin T) rfl (fun j _ _ => rfl) k v h
  rwa [Nat.zero_add] at this
end Kc
end
section
set_option Elab.async false
set_option linter.all false
set_option maxRecDepth 100000
set_option maxHeartbeats 4000000
namespace Kp
open PySem L2

open Ka
theorem but_x {x PT : Addr} {A B : Hp} (b : But [x] A B) : But [x, PT] A B := b.mono fun c h => by simp at h; simp [h]
theorem but_pt {x PT : Addr} {A B : Hp} (b : But [PT] A B) : But [x, PT] A B := b.mono fun c h => by simp at h; simp [h]
theorem TabG.keep {PT : Addr} {H H' : Hp} {K : PySem.W.Frag} (h : GxR.TabG H PT) (b : But [PT] H H') : KeepT K H H' := b.keepT fun m hm => by
  obtain ⟨ps, q, _⟩ := h
  rw [List.mem_singleton.mp hm, q]; trivial
theorem par_lt (T : Ka.Tree) (i p : Nat) (h : (fin_ T).parents[i]? = some (some p)) : p < (fin_ T).parents.length := by
  have hC := chain_fin T
  have hi := (List.getElem?_eq_some_iff.mp h).1
  by_cases h0 : i = 0
  · subst h0; rw [hC.zero] at h; cases h
  · obtain ⟨p', d, h1, h2, _, _⟩ := hC.up i (by omega) hi
    rw [h1] at h
    cases h; omega
/-- what Layout tells of line k is its depth -/
theorem ld_of (T : Ka.Tree) {k v : Nat} (h : (T.ldeps 0)[k]? = some v) : (∃ n p, (fin_ T).ended.lookup k = some n ∧ (fin_ T).parents[n]? = some (some p) ∧ (fin_ T).depths[p]? = some v) ∨ ((fin_ T).ended.lookup k = none ∧ ∃ s, (fin_ T).pts[k]? = some s ∧ (fin_ T).depths[s]? = some v) := by
  have hk : k < T.len := by rw [← Kc.ldeps_length T 0]; exact (List.getElem?_eq_some_iff.mp h).1
  rcases Kc.ld_fin T h with ⟨m, p, h1, h2, h3⟩ | ⟨h1, h2⟩
  · obtain ⟨_, _, h4⟩ := Kc.par_dep T h2
    refine .inl ⟨m, p, h1, h4, ?_⟩
    have := par_lt T m p h4
    rw [(chain_fin T).len] at this
    rw [Kc.sdep_get T this, h3]
  · have hp : k < (fin_ T).pts.length := by rw [fin_pts]; omega
    have e : (fin_ T).pts[k]? = some (Kc.scOf T k) := by
      unfold Kc.scOf
      rw [List.getD_eq_getElem?_getD, List.getElem?_eq_getElem hp]; rfl
    refine .inr ⟨h1, _, e, ?_⟩
    rw [Kc.sdep_get T (by rw [fin_depths]; exact fin_pt T (List.mem_of_getElem? e)), h2]
section
variable {P : Program} {w : World} {K : PySem.W.Frag} {mg : Str → Option Value} {base : Heap}
/-- the edges of a tree, the number of points -/
def TreeOk (lo : Nat) (T : Ka.Tree) : Prop := 97 ≤ lo ∧ lo + 6 ≤ 123 ∧ T.okT lo ∧ T.flat.length ≤ 80 ∧ T.high ≤ 5 ∧ (T.pE 0 1).length ≤ 900
def spProg (K : PySem.W.Frag) (C PT : Addr) : Sp := fun vs H Q _ => ∃ (x dx : Addr) (T : Ka.Tree) (lo : Nat), vs = [.ref x, .str (Txt.join ("\n" : Str) (T.flat.map Stm.txt))] ∧ H x = some (.ins C dx []) ∧ GxR.TabG H PT ∧ TreeOk lo T ∧
  (∀ z ∈ T.flat.map Stm.txt, 10 ∉ z.cps.toList ∧ z.length ≤ 900 ∧ Txt.lstripChars z (" " : Str) = z ∧ z ≠ ("" : Str)) ∧ (Txt.join ("\n" : Str) (T.flat.map Stm.txt)).length ≤ 4000 ∧
  ∀ H', But [x, PT] H H' → GxR.TabG H' PT → ProgAt K C H' x T → Q .non H'
def spProgW (K : PySem.W.Frag) (C PT : Addr) : Sp := fun vs H Q _ => ∃ (x dx : Addr) (T : Ka.Tree) (lo : Nat) (ws : List Str), vs = [.ref x, .str (Txt.join ("\n" : Str) ws)] ∧ H x = some (.ins C dx []) ∧ GxR.TabG H PT ∧ TreeOk lo T ∧
  ws.length ≤ 400 ∧ (∀ z ∈ ws, 10 ∉ z.cps.toList ∧ z.length ≤ 900) ∧ (Txt.join ("\n" : Str) ws).length ≤ 4000 ∧ cleanR ws = T.flat.map Stm.txt ∧
  ∀ H', But [x, PT] H H' → GxR.TabG H' PT → ProgAt K C H' x T → Q .non H'
theorem scN_prog : FnScope ["self", "text", "layout", "line", "at", "kind", "scope", "told"] ["self", "text"] (defScope s_Program_init) := ⟨rfl, rfl, rfl, by decide +kernel, rfl, by decide +kernel, by decide +kernel⟩
theorem ok_progW {PT : Addr} (T : Tx K w mg) (G_statement_of : FnOk P w K mg base CX0 3 T.f_statement_of T.d_statement_of ["line"] (spStmt K PT)) (G_variables_of : FnOk P w K mg base CX0 1 T.f_variables_of T.d_variables_of ["statements"] (spVars K)) : FnOk P w K mg base CX0 4 T.f_Program_init T.d_Program_init ["self", "text"] (spProgW K T.C_Program PT) := by
  have G_lines_of := ok_linesW (P := P) (base := base) T
  have G_layout_of := ok_layof (P := P) (base := base) T
  have G_check_limits := ok_lim (P := P) (base := base) T
  have G_Layout_line_depth := ok_ld (P := P) (base := base) T
  have G_edges_of := ok_edgesof (P := P) (base := base) T
  have G_followers_of := ok_follow (P := P) (base := base) T
  have G_Program_scopes_around := ok_sa (P := P) (base := base) T
  refine T.Program_init.F.ok scN_prog (fun vs H Q E h => ?_) (fun cdv A outer s H vs Q E hr h => ?_)
  · obtain ⟨x, dx, Tr, lo, ws, rfl, _⟩ := h
    rfl
  · obtain ⟨x, dx, Tr, lo, ws, rfl, hx, hP, tok, wl, hz, hl4, hcl, q⟩ := h
    have hr1 := hr.mono (by decide : 1 ≤ 3)
    have hu := hu_of hr
    refine ⟨_, (pss_cons (ps_if (pt_cmpR op_gt (pe_callB call_len_str (by rfl) T.B.len PySem.boot_len (pa_cons (pv 1) pa_nil)) (pe_glob (v := .int 4000) rfl T.k_MOST_CHARACTERS.choose_spec ⟨_, rfl⟩) (nomark _)) (pss_one ps_never) pss_nil)
        (pss_cons (ps_fld (pv 0) (pe_call G_lines_of hr1 (by rfl) T.lines_of.g T.lines_of.F.kp T.lines_of.b .nil pass0 (pa_cons (pv 1) pa_nil)) rfl)
        (pss_cons (ps_fld (pv 0) (pe_callTy call_tuple_of (by rfl) T.B.tuple (by decide +kernel) (pa_cons (pe_lc (own := [("line", 3)]) (g := gName 3) (tt := tYes) rfl scN_prog.nd (pi_tup (pe_fld (pv 0) rfl)) (blkOk_by (own := [("line", 3)]) (N := ["self", "text", "layout", "line", "at", "kind", "scope", "told"]) (sc := defScope s_Program_init) (by decide +kernel)) (fun _ _ _ _ _ => (pg_name (i := 3) scN_prog.nd rfl (.inl rfl))) (fun _ _ _ _ _ => pts_nil) (fun _ _ _ _ _ => (pe_call G_statement_of hr (by rfl) T.statement_of.g T.statement_of.F.kp T.statement_of.b .nil pass0 (pa_cons (pv 3) pa_nil)))) pa_nil)) rfl)
        (pss_cons (ps_set (i := 2) scN_prog.nd rfl (.inr rfl) (pe_call G_layout_of hr (by rfl) T.layout_of.g T.layout_of.F.kp T.layout_of.b .nil pass0 (pa_cons (pe_fld (pv 0) rfl) pa_nil)))
        (pss_cons (ps_fld (pv 0) (pe_call G_variables_of hr1 (by rfl) T.variables_of.g T.variables_of.F.kp T.variables_of.b .nil pass0 (pa_cons (pe_fld (pv 0) rfl) pa_nil)) rfl)
        (pss_cons (ps_expr (pe_call G_check_limits hr1 (by rfl) T.check_limits.g T.check_limits.F.kp T.check_limits.b .nil pass0 (pa_cons (pe_fld (pv 0) rfl) (pa_cons (pe_fld (pv 2) rfl) (pa_cons (pe_fld (pv 0) rfl) pa_nil)))))
        (pss_cons (ps_fld (pv 0) (pe_callTy call_tuple_of (by rfl) T.B.tuple (by decide +kernel) (pa_cons (pe_lc (own := [("at", 4)]) (g := gName 4) (tt := tYes) rfl scN_prog.nd (pi_range1 rfl T.B.range (pa_cons (pe_callB call_len_seq (by rfl) T.B.len PySem.boot_len (pa_cons (pe_fld (pv 0) rfl) pa_nil)) pa_nil)) (blkOk_by (own := [("at", 4)]) (N := ["self", "text", "layout", "line", "at", "kind", "scope", "told"]) (sc := defScope s_Program_init) (by decide +kernel)) (fun _ _ _ _ _ => (pg_name (i := 4) scN_prog.nd rfl (.inl rfl))) (fun _ _ _ _ _ => pts_nil) (fun _ _ _ _ _ => (pe_meth (pv 2) T.cl_Layout T.Layout_line_depth.m G_Layout_line_depth hr1 T.Layout_line_depth.b .nil pass0 (pa_cons (pv 4) pa_nil)))) pa_nil)) rfl)
        (pss_cons (ps_fld (pv 0) (pe_callTy call_tuple_of (by rfl) T.B.tuple (by decide +kernel) (pa_cons (pe_fld (pv 2) rfl) pa_nil)) rfl)
        (pss_cons (ps_fld (pv 0) (pe_callTy call_tuple_of (by rfl) T.B.tuple (by decide +kernel) (pa_cons (pe_fld (pv 2) rfl) pa_nil)) rfl)
        (pss_cons (ps_fld (pv 0) (pe_callTy call_tuple_of (by rfl) T.B.tuple (by decide +kernel) (pa_cons (pe_lc (own := [("at", 4), ("kind", 5)]) (g := gTup K 2 (gCons (gName 4) (gCons (gName 5) gNil))) rfl scN_prog.nd (pi_enum (by rfl) T.B.enumerate (pa_cons (pe_fld (pv 2) rfl) pa_nil)) (blkOk_by (own := [("at", 4), ("kind", 5)]) (N := ["self", "text", "layout", "line", "at", "kind", "scope", "told"]) (sc := defScope s_Program_init) (by decide +kernel)) (fun _ _ _ _ _ => (pg_tup rfl (pgs_cons (pg_name (i := 4) scN_prog.nd rfl (.inl rfl) (.inr rfl)) (pgs_cons (pg_name (i := 5) scN_prog.nd rfl (.inl rfl) (.inr rfl)) pgs_nil)))) (fun _ _ _ _ _ => pts_one (pt_cmpR op_eq (pv 5) pe_str (nomark _))) (fun _ _ _ _ _ => (pv 4))) pa_nil)) rfl)
        (pss_cons (ps_fld (pv 0) (pe_callTy call_tuple_of (by rfl) T.B.tuple (by decide +kernel) (pa_cons (pe_fld (pv 2) rfl) pa_nil)) rfl)
        (pss_cons (ps_fld (pv 0) (pe_callTy call_tuple_of (by rfl) T.B.tuple (by decide +kernel) (pa_cons (pe_lc (own := [("scope", 6)]) (g := gName 6) (tt := tYes) rfl scN_prog.nd (pi_tup (pe_fld (pv 0) rfl)) (blkOk_by (own := [("scope", 6)]) (N := ["self", "text", "layout", "line", "at", "kind", "scope", "told"]) (sc := defScope s_Program_init) (by decide +kernel)) (fun _ _ _ _ _ => (pg_name (i := 6) scN_prog.nd rfl (.inl rfl))) (fun _ _ _ _ _ => pts_nil) (fun _ _ _ _ _ => (pe_ix (show IxR _ (rIxT K) from ix_tup) (show PE _ _ (tFld K _ _) from pe_fld (pv 0) rfl) (pv 6) (fun _ _ => rfl)))) pa_nil)) rfl)
        (pss_cons (ps_fld (pv 0) (pe_call G_edges_of hr (by rfl) T.edges_of.g T.edges_of.F.kp T.edges_of.b .nil pass0 (pa_cons (pe_fld (pv 0) rfl) (pa_cons (pe_fld (pv 0) rfl) (pa_cons (pv 2) pa_nil)))) rfl)
        (pss_cons (ps_fld (pv 0) (pe_call G_followers_of hr1 (by rfl) T.followers_of.g T.followers_of.F.kp T.followers_of.b .nil pass0 (pa_cons (pe_fld (pv 0) rfl) (pa_cons (pe_callB call_len_seq (by rfl) T.B.len PySem.boot_len (pa_cons (pe_fld (pv 0) rfl) pa_nil)) pa_nil))) rfl)
        (pss_cons (ps_fld (pv 0) (pe_callTy call_tuple_of (by rfl) T.B.tuple (by decide +kernel) (pa_cons (pe_lc (own := [("at", 4), ("told", 7)]) (g := gTup K 2 (gCons (gName 4) (gCons (gName 7) gNil))) rfl scN_prog.nd (pi_enumT (by rfl) T.B.enumerate (pa_cons (pe_fld (pv 0) rfl) pa_nil)) (blkOk_by (own := [("at", 4), ("told", 7)]) (N := ["self", "text", "layout", "line", "at", "kind", "scope", "told"]) (sc := defScope s_Program_init) (by decide +kernel)) (fun _ _ _ _ _ => (pg_tup rfl (pgs_cons (pg_name (i := 4) scN_prog.nd rfl (.inl rfl) (.inr rfl)) (pgs_cons (pg_name (i := 7) scN_prog.nd rfl (.inl rfl) (.inr rfl)) pgs_nil)))) (fun _ _ _ _ _ => pts_one (pt_cmpR op_eq (pe_ix (show IxR _ (rIxT K) from ix_tup) (pv 7) pe_int (fun _ _ => rfl)) pe_str (nomark _))) (fun _ _ _ _ _ => (pv 4))) pa_nil)) rfl)
        (pss_one (ps_fld (pv 0) (pe_callTy call_tuple_of (by rfl) T.B.tuple (by decide +kernel) (pa_cons (pe_lc (own := [("at", 4)]) (g := gName 4) (tt := tYes) rfl scN_prog.nd (pi_tup (pe_fld (pv 0) rfl)) (blkOk_by (own := [("at", 4)]) (N := ["self", "text", "layout", "line", "at", "kind", "scope", "told"]) (sc := defScope s_Program_init) (by decide +kernel)) (fun _ _ _ _ _ => (pg_name (i := 4) scN_prog.nd rfl (.inl rfl))) (fun _ _ _ _ _ => pts_nil) (fun _ _ _ _ _ => (pe_meth (pv 0) T.cl_Program T.Program_scopes_around.m G_Program_scopes_around hr1 T.Program_scopes_around.b .nil pass0 (pa_cons (pe_ix (show IxR _ (rIxT K) from ix_tup) (show PE _ _ (tFld K _ _) from pe_fld (pv 0) rfl) (pv 4) (fun _ _ => rfl)) pa_nil)))) pa_nil)) rfl))))))))))))))))), ?_⟩
    obtain ⟨lo1, lo2, okT, f80, h5, e900⟩ := tok
    have P0 : PSt T.C_Program x dx PT H H 0 [] := ⟨hx, rfl, But.refl _ _, hP⟩
    have zl : (Tr.flat.map Stm.txt).length = Tr.flat.length := List.length_map ..
    -- len(text)
    refine ⟨_, rfl, _, rfl, by have : (4002 : Nat) ≤ sizeLine := by decide +kernel
                               omega, _, _, rfl, rfl, _, rfl, ?_⟩
    rw [decide_eq_false (by omega)]
    refine iteF (A := True) ?_
    -- lines
    refine ⟨_, rfl, ws, rfl, by omega, hz, hl4, fun t1 H1 s1 f1 e1 => ?_⟩
    rw [hcl] at e1
    obtain ⟨fs, o1, z1, P1, b1⟩ := (P0.same s1).set (k := "lines") (v := .ref t1) rfl
    refine ⟨_, rfl, x, _, dx, fs, rfl, o1, T.cl_Program, T.n_Program_lines, z1, ?_⟩
    have q1 : SqT K (upd H1 x (.ins T.C_Program dx (putF "lines" (.ref t1) fs))) t1 ((Tr.flat.map Stm.txt).map V.str) := (P0.same s1).sq (but_x b1) (SqT.of e1)
    generalize upd H1 x (.ins T.C_Program dx (putF "lines" (.ref t1) fs)) = H2 at P1 b1 q1 ⊢
    clear b1 o1 z1 e1 f1 s1 fs P0
    -- statements
    refine ⟨_, rfl, x, _, dx, _, _, rfl, P1.o, T.cl_Program, T.n_Program_lines, P1.get 0 rfl rfl, t1, rfl, ⟨_, q1⟩, fun D hD => ?_⟩
    refine lc_tup (xs := (Tr.flat.map Stm.txt).map V.str) (fun i H' => But [PT] H2 H' ∧ GxR.TabG H' PT ∧ ∃ ys, H' D = some (.lst ys) ∧ ys.length = i ∧ ∀ (j : Nat) (s : Stm), j < i → Tr.flat[j]? = some s → ∃ a, ys[j]? = some (.ref a) ∧ SqT K H' a s.vals) ⟨But.new hD _, ?_, [], upd_same, rfl, fun j s hj => by omega⟩ ?_ ?_ ?_
    · obtain ⟨ps, q, r⟩ := P1.tb
      exact ⟨ps, by rw [upd_ne (ne_of_none q hD)]; exact q, r⟩
    · rintro i H' _ ⟨b, _, _⟩
      exact P1.sq (but_pt b) q1
    · rintro i y H' hy ⟨b, tb, ys, hys, len, all⟩
      rw [List.map_map, List.getElem?_map] at hy
      obtain ⟨st, hst, rfl⟩ := Option.map_eq_some_iff.mp hy
      refine ⟨rfl, _, rfl, st, lo, rfl, lo1, lo2, ?_, tb, fun a H3 b3 tb3 sq3 => ?_⟩
      · exact fun l hl => okT_mem Tr okT l (by rw [← hl]; exact List.mem_of_getElem? hst)
      · have hi : i < Tr.flat.length := (List.getElem?_eq_some_iff.mp hst).1
        have nD : D ≠ PT := fun z => by obtain ⟨ps, q, _⟩ := tb; rw [← z, hys] at q; cases q
        have hys3 := b3 _ _ hys (by simpa using nD)
        have kD : KeepT K H3 (upd H3 D (.lst (ys ++ [.ref a]))) := (But.upd (ms := [D]) (by simp) _).keepT fun m hm => by rw [List.mem_singleton.mp hm, hys3]; trivial
        refine ⟨ys, hys3, by rw [len]; exact small1000 (by omega), ?_, ?_, ys ++ [.ref a], upd_same, by simp [len], fun j s hj hs => ?_⟩
        · intro c o hc hn
          have hne : c ≠ D := ne_of_none hc hD
          rw [upd_ne hne]; exact b3 _ _ (b _ _ hc hn) hn
        · obtain ⟨ps, q, r⟩ := tb3
          exact ⟨ps, by rw [upd_ne (fun z => nD z.symm)]; exact q, r⟩
        · by_cases hji : j = i
          · subst hji
            rw [hst] at hs; cases hs
            exact ⟨a, by rw [← len, List.getElem?_append_right (Nat.le_refl _), Nat.sub_self]; rfl, kD _ _ sq3⟩
          · obtain ⟨a', h1, h2⟩ := all j s (by omega) hs
            exact ⟨a', by rw [List.getElem?_append_left (by omega)]; exact h1, kD _ _ (TabG.keep tb b3 _ _ h2)⟩
    rintro H3 ⟨b3, tb3, ys, hys, ylen, yall⟩
    refine ⟨D, ys, rfl, .inl ⟨SqL.of hys, fun t2 ht2 => ?_⟩⟩
    have P2 := (P1.step b3 tb3).same (same_new ht2 (.tup ys))
    have b4 : But [PT] H2 (upd H3 t2 (.tup ys)) := b3.trans (But.same (same_new ht2 _) _)
    have q2 := P1.sq (but_pt b4) q1
    have l2 : ToldsAt K (upd H3 t2 (.tup ys)) ys Tr.flat := by
      have xl : ((Tr.flat.map Stm.txt).map V.str).length = Tr.flat.length := by simp
      refine ⟨by rw [ylen, xl], fun i s hs => ?_⟩
      obtain ⟨a, h1, h2⟩ := yall i s (by rw [xl]; exact (List.getElem?_eq_some_iff.mp hs).1) hs
      exact ⟨a, h1, (Same.keepT (same_new ht2 _)) _ _ h2⟩
    have e2 : (upd H3 t2 (.tup ys)) t2 = some (.tup ys) := upd_same
    generalize upd H3 t2 (.tup ys) = H4 at P2 b4 q2 l2 e2 ⊢
    have hx0 : H x ≠ none := by rw [hx]; intro z; cases z
    -- self.statements =
    obtain ⟨fs, o1, z1, P3, b5⟩ := P2.set (k := "statements") (v := .ref t2) rfl
    refine ⟨_, rfl, x, _, dx, fs, rfl, o1, T.cl_Program, T.n_Program_statements, z1, ?_⟩
    have q3 := P2.sq (but_x b5) q2
    have l3 : ToldsAt K (upd H4 x (.ins T.C_Program dx (putF "statements" (.ref t2) fs))) ys Tr.flat := ⟨l2.1, fun i s hs => by obtain ⟨a, h1, h2⟩ := l2.2 i s hs; exact ⟨a, h1, P2.sq (but_x b5) h2⟩⟩
    have e3 : SqT K (upd H4 x (.ins T.C_Program dx (putF "statements" (.ref t2) fs))) t2 ys := P2.sq (but_x b5) (SqT.of e2)
    generalize upd H4 x (.ins T.C_Program dx (putF "statements" (.ref t2) fs)) = H5 at P3 q3 l3 e3 ⊢
    clear b5 o1 z1 e2 l2 q2 P2 b4 yall ylen hys tb3 b3 q1 P1
    -- layout
    have fl : Tr.flat.length = Tr.len := flat_len Tr
    refine ⟨_, rfl, x, _, dx, _, _, rfl, P3.o, T.cl_Program, T.n_Program_statements, P3.get 1 rfl rfl, t2, ys, Tr, rfl, e3, l3, by omega, fun A H6 s6 fr lay => ?_⟩
    have Ao : A.o ≠ x := fun z => by
      have h1 := fr A.o (List.mem_cons_self ..)
      rw [z, P3.o] at h1; cases h1
    have P4 := P3.same s6
    have B4 : FB K T.C_Layout H6 A (fin_ Tr) ys Tr.flat [(t2, ys), (t1, (Tr.flat.map Stm.txt).map V.str)] [] := ⟨fun p hp => by
        rcases List.mem_cons.mp hp with e | e
        · rw [e]; exact (Same.keepT s6) _ _ e3
        · rw [List.mem_singleton.mp e]; exact (Same.keepT s6) _ _ q3, by simp, lay, l3.keep (Same.keepT s6)⟩
    clear e3 l3 q3 P3 s6 lay fr
    -- variables
    refine ⟨_, rfl, x, _, dx, _, _, rfl, P4.o, T.cl_Program, T.n_Program_statements, P4.get 1 rfl rfl, t2, ys, Tr.flat, lo, rfl, B4.q (t2, ys) (by simp), B4.s, f80, lo1, lo2, okT_mem Tr okT, fun z H7 s7 hz6 vz => ?_⟩
    obtain ⟨fs, o1, z1, P5, B5⟩ := (B4.same s7).set (P4.same s7) Ao (k := "variables") (.str z) rfl
    refine ⟨_, rfl, x, _, dx, fs, rfl, o1, T.cl_Program, T.n_Program_variables, z1, ?_⟩
    generalize upd H7 x (.ins T.C_Program dx (putF "variables" (.str z) fs)) = H8 at P5 B5 ⊢
    clear o1 z1 s7 B4 P4
    -- check_limits
    obtain ⟨dl, hol⟩ := B5.l.o
    refine ⟨_, rfl, x, _, dx, _, _, rfl, P5.o, T.cl_Program, T.n_Program_lines, P5.get 0 rfl rfl, _, rfl, A.o, _, dl, _, _, rfl, hol, T.cl_Layout, T.n_Layout_depths, fl_at A 4 rfl rfl, _, rfl, x, _, dx, _, _, rfl, P5.o, T.cl_Program, T.n_Program_variables, P5.get 2 rfl rfl, ?_⟩
    refine ⟨t1, A.d, z, (Tr.flat.map Stm.txt).map V.str, (fin_ Tr).depths, rfl, B5.q (t1, _) (by simp), (by simp only [List.length_map]; omega), B5.l.d, by show [0] ++ _ ≠ []; simp, dep5 Tr h5, hz6, ?_⟩
    -- line_depths
    have tx : ((Tr.flat.map Stm.txt).map V.str).length = Tr.len := by simp only [List.length_map]; exact fl
    refine ⟨_, rfl, x, _, dx, _, _, rfl, P5.o, T.cl_Program, T.n_Program_lines, P5.get 0 rfl rfl, t1, _, rfl, .inr (B5.q (t1, (Tr.flat.map Stm.txt).map V.str) (by simp)), _, rfl, (by show -(2 ^ 62) ≤ ((((Tr.flat.map Stm.txt).map V.str).length : Nat) : Int); omega), (by show ((((Tr.flat.map Stm.txt).map V.str).length : Nat) : Int) < 2 ^ 62; rw [tx]; omega), fun D hD => ?_⟩
    refine lc_range (lo := 0) (n := ((Tr.flat.map Stm.txt).map V.str).length) (fun i H' => Same H8 H' ∧ H' D = some (.lst (((Tr.ldeps 0).take i).map fun n => V.int (n : Nat)))) ⟨same_new hD _, upd_same⟩ ?_ ?_
    · rintro i H' hi ⟨sm, hus⟩
      have hi2 : i < (Tr.ldeps 0).length := by rw [Kc.ldeps_length]; omega
      have ev : (Tr.ldeps 0)[i]? = some (Tr.ldeps 0)[i] := List.getElem?_eq_getElem hi2
      obtain ⟨dy, hoy⟩ := (B5.l.mono sm).o
      refine ⟨rfl, _, rfl, A.o, dy, _, rfl, hoy, fl_no A (by decide +kernel), _, rfl, A, fin_ Tr, i, (Tr.ldeps 0)[i], by rw [Int.zero_add]; rfl, B5.l.mono sm, ld_of Tr ev, _, hus, by rw [List.length_map, List.length_take]; exact small1000 (by omega), fun c o hc => ?_, ?_⟩
      · rw [upd_ne (ne_of_none hc hD)]; exact sm _ _ hc
      · rw [upd_same, take_snoc ev, List.map_append]; rfl
    rintro H9 ⟨s9, hus⟩
    rw [tx, List.take_of_length_le (by rw [Kc.ldeps_length]; exact Nat.le_refl _)] at hus
    refine ⟨D, _, rfl, .inl ⟨SqL.of hus, fun t4 ht4 => ?_⟩⟩
    generalize hgu : ((Tr.ldeps 0).map fun n => V.int (n : Nat)) = us at hus ⊢
    have s10 := s9.trans (same_new ht4 (.tup us))
    obtain ⟨fs, o1, z1, P6, B6⟩ := ((B5.same s10).addq (a := t4) (SqT.of upd_same)).set (P5.same s10) Ao (k := "line_depths") (.ref t4) rfl
    refine ⟨_, rfl, x, _, dx, fs, rfl, o1, T.cl_Program, T.n_Program_line_depths, z1, ?_⟩
    generalize upd (upd H9 t4 (.tup us)) x (.ins T.C_Program dx (putF "line_depths" (.ref t4) fs)) = H10 at P6 B6 ⊢
    clear s10 o1 z1 s9 hus ht4 B5 P5 hD hol
    -- parents
    obtain ⟨dl, hol⟩ := B6.l.o
    refine ⟨_, rfl, A.o, _, dl, _, _, rfl, hol, T.cl_Layout, T.n_Layout_parents, fl_at A 3 rfl rfl, A.p, _, rfl, .inl ⟨SqL.of B6.l.p, fun t5 ht5 => ?_⟩⟩
    have s11 := same_new ht5 (.tup ((fin_ Tr).parents.map opV))
    obtain ⟨fs, o1, z1, P7, B7⟩ := ((B6.same s11).addq (a := t5) (SqT.of upd_same)).set (P6.same s11) Ao (k := "parents") (.ref t5) rfl
    refine ⟨_, rfl, x, _, dx, fs, rfl, o1, T.cl_Program, T.n_Program_parents, z1, ?_⟩
    generalize upd (upd H10 t5 (.tup ((fin_ Tr).parents.map opV))) x (.ins T.C_Program dx (putF "parents" (.ref t5) fs)) = H11 at P7 B7 ⊢
    clear s11 o1 z1 ht5 B6 P6 hol
    -- scope_depths
    obtain ⟨dl, hol⟩ := B7.l.o
    refine ⟨_, rfl, A.o, _, dl, _, _, rfl, hol, T.cl_Layout, T.n_Layout_depths, fl_at A 4 rfl rfl, A.d, _, rfl, .inl ⟨SqL.of B7.l.d, fun t6 ht6 => ?_⟩⟩
    have s12 := same_new ht6 (.tup ((fin_ Tr).depths.map fun n => V.int (n : Nat)))
    obtain ⟨fs, o1, z1, P8, B8⟩ := ((B7.same s12).addq (a := t6) (SqT.of upd_same)).set (P7.same s12) Ao (k := "scope_depths") (.ref t6) rfl
    refine ⟨_, rfl, x, _, dx, fs, rfl, o1, T.cl_Program, T.n_Program_scope_depths, z1, ?_⟩
    generalize upd (upd H11 t6 (.tup ((fin_ Tr).depths.map fun n => V.int (n : Nat)))) x (.ins T.C_Program dx (putF "scope_depths" (.ref t6) fs)) = H12 at P8 B8 ⊢
    clear s12 o1 z1 ht6 B7 P7 hol
    -- loops
    obtain ⟨dl, hol⟩ := B8.l.o
    have kl : (fin_ Tr).kinds.length = Tr.nsc + 1 := fin_kinds Tr
    have nl := nsc_len Tr
    refine ⟨_, rfl, A.o, _, dl, _, _, rfl, hol, T.cl_Layout, T.n_Layout_kinds, fl_at A 0 rfl rfl, A.k, _, rfl, SqL.of B8.l.k, fun D hD => ?_⟩
    refine lc_it (walk_enum (xs := (fin_ Tr).kinds.map fun k => V.str k.pw)) (fun i H' => Same H12 H' ∧ H' D = some (.lst (((List.range i).filter fun k => decide ((fin_ Tr).kinds[k]? = some .whl)).map fun n => V.int (n : Nat)))) ⟨same_new hD _, upd_same⟩ ?_ ?_ ?_
    · rintro i H' _ ⟨sm, _⟩
      exact SqL.of (sm _ _ B8.l.k)
    · rintro i y H' H'' hi ⟨sm, hus⟩ ⟨T0, x0, y0, rfl, hT0, rfl, ex0, ey0⟩
      cases ex0
      have hi' : i < (fin_ Tr).kinds.length := by simpa using hi
      have ey0 : ((fin_ Tr).kinds.map fun k => V.str k.pw)[i]? = some y0 := ey0
      rw [List.getElem?_map, List.getElem?_eq_getElem hi'] at ey0
      cases ey0
      have sT := same_new hT0 (.tup [V.int (i : Nat), .str ((fin_ Tr).kinds[i]).pw])
      refine ⟨T0, [.int (i : Nat), .str ((fin_ Tr).kinds[i]).pw], rfl, SqT.of upd_same, rfl, _, _, rfl, _, _, rfl, rfl, rfl, _, rfl, rfl, _, rfl, ?_⟩
      rw [pw_whl]
      have hus2 := sT _ _ hus
      generalize upd H' T0 (.tup [V.int (i : Nat), .str ((fin_ Tr).kinds[i]).pw]) = H13 at sT hus2 ⊢
      have ek : (fin_ Tr).kinds[i]? = some (fin_ Tr).kinds[i] := List.getElem?_eq_getElem hi'
      have lenl : ((List.range i).filter fun k => decide ((fin_ Tr).kinds[k]? = some Kd.whl)).length ≤ i := by
        have := List.length_filter_le (fun k => decide ((fin_ Tr).kinds[k]? = some Kd.whl)) (List.range i)
        rwa [List.length_range] at this
      by_cases hk : (fin_ Tr).kinds[i] = .whl
      · rw [decide_eq_true hk]
        refine iteT (B := True) ?_
        refine ⟨_, rfl, _, hus2, by rw [List.length_map]; exact small1000 (by omega), fun c o hc => ?_, ?_⟩
        · rw [upd_ne (ne_of_none hc hD)]; exact sT _ _ (sm _ _ hc)
        · rw [upd_same, List.range_succ, List.filter_append, List.filter_cons_of_pos (by rw [ek, hk]; exact decide_eq_true rfl), List.map_append]; rfl
      · rw [decide_eq_false hk]
        refine iteF (A := True) ?_
        refine ⟨sm.trans sT, ?_⟩
        rw [List.range_succ, List.filter_append, List.filter_cons_of_neg (by rw [ek]; simpa using hk), List.filter_nil, List.append_nil]; exact hus2
    rintro H13 ⟨s13, hus⟩
    rw [List.length_map] at hus
    refine ⟨D, _, rfl, .inl ⟨SqL.of hus, fun t7 ht7 => ?_⟩⟩
    generalize els : (List.range (fin_ Tr).kinds.length).filter (fun k => decide ((fin_ Tr).kinds[k]? = some Kd.whl)) = ls at hus ht7 ⊢
    have s14 := s13.trans (same_new ht7 (.tup (ls.map fun n => V.int (n : Nat))))
    obtain ⟨fs, o1, z1, P9, B9⟩ := ((B8.same s14).addq (a := t7) (SqT.of upd_same)).set (P8.same s14) Ao (k := "loops") (.ref t7) rfl
    refine ⟨_, rfl, x, _, dx, fs, rfl, o1, T.cl_Program, T.n_Program_loops, z1, ?_⟩
    generalize upd (upd H13 t7 (.tup (ls.map fun n => V.int (n : Nat)))) x (.ins T.C_Program dx (putF "loops" (.ref t7) fs)) = H14 at P9 B9 ⊢
    clear s14 o1 z1 ht7 B8 P8 hol hus s13 hD
    -- point_scopes
    obtain ⟨dl, hol⟩ := B9.l.o
    refine ⟨_, rfl, A.o, _, dl, _, _, rfl, hol, T.cl_Layout, T.n_Layout_point_scopes, fl_at A 5 rfl rfl, A.t, _, rfl, .inl ⟨SqL.of B9.l.t, fun t8 ht8 => ?_⟩⟩
    have s15 := same_new ht8 (.tup ((fin_ Tr).pts.map fun n => V.int (n : Nat)))
    obtain ⟨fs, o1, z1, P10, B10⟩ := ((B9.same s15).addq (a := t8) (SqT.of upd_same)).set (P9.same s15) Ao (k := "point_scopes") (.ref t8) rfl
    refine ⟨_, rfl, x, _, dx, fs, rfl, o1, T.cl_Program, T.n_Program_point_scopes, z1, ?_⟩
    generalize upd (upd H14 t8 (.tup ((fin_ Tr).pts.map fun n => V.int (n : Nat)))) x (.ins T.C_Program dx (putF "point_scopes" (.ref t8) fs)) = H15 at P10 B10 ⊢
    clear s15 o1 z1 ht8 B9 P9 hol
    -- depths
    have pl : (fin_ Tr).pts.length = Tr.len + 1 := fin_pts Tr
    refine ⟨_, rfl, x, _, dx, _, _, rfl, P10.o, T.cl_Program, T.n_Program_point_scopes, P10.get 7 rfl rfl, t8, rfl, ⟨_, B10.q (t8, (fin_ Tr).pts.map fun n => V.int (n : Nat)) (by simp)⟩, fun D hD => ?_⟩
    refine lc_tup (xs := (fin_ Tr).pts.map fun n => V.int (n : Nat)) (fun i H' => Same H15 H' ∧ H' D = some (.lst (((fin_ Tr).pts.take i).map fun s => V.int (((fin_ Tr).depths.getD s 0 : Nat))))) ⟨same_new hD _, upd_same⟩ ?_ ?_ ?_
    · rintro i H' _ ⟨sm, _⟩
      exact (B10.same sm).q (t8, (fin_ Tr).pts.map fun n => V.int (n : Nat)) (by simp)
    · rintro i y H' hy ⟨sm, hus⟩
      rw [List.getElem?_map] at hy
      obtain ⟨s0, hs0, rfl⟩ := Option.map_eq_some_iff.mp hy
      have hlt : s0 < (fin_ Tr).depths.length := by rw [fin_depths]; exact fin_pt Tr (List.mem_of_getElem? hs0)
      have hi := (List.getElem?_eq_some_iff.mp hs0).1
      have Ps := P10.same sm
      refine ⟨rfl, _, rfl, x, _, dx, _, _, rfl, Ps.o, T.cl_Program, T.n_Program_scope_depths, Ps.get 5 rfl rfl, _, rfl, t6, _, _, .int (((fin_ Tr).depths.getD s0 0 : Nat)), rfl, rfl, (B10.same sm).q (t6, (fin_ Tr).depths.map fun n => V.int (n : Nat)) (by simp), nt_at (by rw [List.getD_eq_getElem?_getD, List.getElem?_eq_getElem hlt]; rfl), _, hus, by rw [List.length_map, List.length_take]; exact small1000 (by omega), fun c o hc => ?_, ?_⟩
      · rw [upd_ne (ne_of_none hc hD)]; exact sm _ _ hc
      · rw [upd_same, take_snoc hs0, List.map_append]; rfl
    rintro H16 ⟨s16, hus⟩
    rw [List.length_map, List.take_length] at hus
    refine ⟨D, _, rfl, .inl ⟨SqL.of hus, fun t9 ht9 => ?_⟩⟩
    have s17 := s16.trans (same_new ht9 (.tup ((fin_ Tr).pts.map fun s => V.int (((fin_ Tr).depths.getD s 0 : Nat)))))
    obtain ⟨fs, o1, z1, P11, B11⟩ := ((B10.same s17).addq (a := t9) (SqT.of upd_same)).set (P10.same s17) Ao (k := "depths") (.ref t9) rfl
    refine ⟨_, rfl, x, _, dx, fs, rfl, o1, T.cl_Program, T.n_Program_depths, z1, ?_⟩
    generalize upd (upd H16 t9 (.tup ((fin_ Tr).pts.map fun s => V.int (((fin_ Tr).depths.getD s 0 : Nat))))) x (.ins T.C_Program dx (putF "depths" (.ref t9) fs)) = H17 at P11 B11 ⊢
    clear s17 o1 z1 ht9 B10 P10 hus s16 hD
    -- edges
    refine ⟨_, rfl, x, _, dx, _, _, rfl, P11.o, T.cl_Program, T.n_Program_lines, P11.get 0 rfl rfl, _, rfl, x, _, dx, _, _, rfl, P11.o, T.cl_Program, T.n_Program_statements, P11.get 1 rfl rfl, _, rfl, ?_⟩
    refine ⟨t1, t2, A, fin_ Tr, Tr.flat, ys, Tr.pE 0 1, rfl, ?_, B11.q (t2, ys) (by simp), B11.s, B11.l, sm_fin Tr (by omega), lines_fin Tr, e900, fun t10 H18 zs s18 f18 e10 tz => ?_⟩
    · have := B11.q (t1, (Tr.flat.map Stm.txt).map V.str) (by simp)
      rw [List.map_map] at this; exact this
    obtain ⟨fs, o1, z1, P12, B12⟩ := (((B11.same s18).addq (a := t10) (SqT.of e10)).addt tz).set (P11.same s18) Ao (k := "edges") (.ref t10) rfl
    refine ⟨_, rfl, x, _, dx, fs, rfl, o1, T.cl_Program, T.n_Program_edges, z1, ?_⟩
    generalize upd H18 x (.ins T.C_Program dx (putF "edges" (.ref t10) fs)) = H19 at P12 B12 ⊢
    clear s18 o1 z1 e10 tz f18 B11 P11
    -- followers
    refine ⟨_, rfl, x, _, dx, _, _, rfl, P12.o, T.cl_Program, T.n_Program_edges, P12.get 9 rfl rfl, _, rfl, x, _, dx, _, _, rfl, P12.o, T.cl_Program, T.n_Program_depths, P12.get 8 rfl rfl, t9, (fin_ Tr).pts.map (fun s => V.int (((fin_ Tr).depths.getD s 0 : Nat))), rfl, .inr (B12.q (t9, (fin_ Tr).pts.map fun s => V.int (((fin_ Tr).depths.getD s 0 : Nat))) (by simp)), ?_⟩
    have range : ∀ e ∈ Tr.pE 0 1, e.s < Tr.len + 1 := fun e he => by
      have := (rising_mem (pE_rising Tr 0 1) e he).2
      omega
    refine ⟨t10, Tr.len + 1, zs, Tr.pE 0 1, by rw [List.length_map, pl]; rfl, B12.q (t10, zs) (by simp), B12.t (zs, (Tr.pE 0 1).map Edge.vals) (by simp), range, by omega, e900, fun t11 H20 ws s20 f20 e11 tw => ?_⟩
    obtain ⟨fs, o1, z1, P13, B13⟩ := (((B12.same s20).addq (a := t11) (SqT.of e11)).addt tw).set (P12.same s20) Ao (k := "followers") (.ref t11) rfl
    refine ⟨_, rfl, x, _, dx, fs, rfl, o1, T.cl_Program, T.n_Program_followers, z1, ?_⟩
    generalize upd H20 x (.ins T.C_Program dx (putF "followers" (.ref t11) fs)) = H21 at P13 B13 ⊢
    clear s20 o1 z1 e11 tw f20 B12 P12
    -- sites
    refine ⟨_, rfl, x, _, dx, _, _, rfl, P13.o, T.cl_Program, T.n_Program_statements, P13.get 1 rfl rfl, t2, _, rfl, B13.q (t2, ys) (by simp), fun D hD => ?_⟩
    refine lc_it (walk_enumT (xs := ys)) (fun i H' => Same H21 H' ∧ H' D = some (.lst (((List.range i).filter (siteAt Tr)).map fun n => V.int (n : Nat)))) ⟨same_new hD _, upd_same⟩ ?_ ?_ ?_
    · rintro i H' _ ⟨sm, _⟩
      exact (B13.same sm).q (t2, ys) (by simp)
    · rintro i y H' H'' hi ⟨sm, hks⟩ ⟨T0, x0, y0, rfl, hT0, rfl, ex0, ey0⟩
      cases ex0
      have hyl : ys.length = Tr.flat.length := B13.s.1
      have si : Tr.flat[i]? = some Tr.flat[i] := List.getElem?_eq_getElem (by omega)
      obtain ⟨a, ha1, _⟩ := B13.s.2 i _ si
      have ey0 : ys[i]? = some y0 := ey0
      rw [ha1] at ey0
      cases ey0
      have sT := same_new hT0 (.tup [V.int (i : Nat), .ref a])
      obtain ⟨a', hb1, hb2⟩ := (B13.same (sm.trans sT)).s.2 i _ si
      have ea : a = a' := by rw [ha1] at hb1; injection hb1 with e; injection e
      subst ea
      obtain ⟨r, er⟩ := vals_word Tr.flat[i]
      refine ⟨T0, [.int (i : Nat), .ref a], rfl, SqT.of upd_same, rfl, _, _, rfl, _, _, rfl, rfl, rfl, _, rfl, a, _, _, .str (Tr.flat[i]).word, rfl, rfl, hb2, by rw [er]; exact atI_nat (j := 0) rfl, rfl, _, rfl, ?_⟩
      have hks2 := sT _ _ hks
      generalize upd H' T0 (.tup [V.int (i : Nat), .ref a]) = H22 at sT hks2 ⊢
      have lenl : ((List.range i).filter (siteAt Tr)).length ≤ i := by
        have := List.length_filter_le (siteAt Tr) (List.range i)
        rwa [List.length_range] at this
      by_cases hw : (Tr.flat[i]).word = ("pair" : Str)
      · have sa : siteAt Tr i = true := by unfold siteAt; rw [si]; exact decide_eq_true (by rw [Option.map_some, hw])
        rw [hw, decide_eq_true rfl]
        refine iteT (B := True) ?_
        refine ⟨_, rfl, _, hks2, by rw [List.length_map]; exact small1000 (by omega), fun c o hc => ?_, ?_⟩
        · rw [upd_ne (ne_of_none hc hD)]; exact sT _ _ (sm _ _ hc)
        · rw [upd_same, List.range_succ, List.filter_append, List.filter_cons_of_pos sa, List.map_append]; rfl
      · have sa : siteAt Tr i = false := by unfold siteAt; rw [si]; exact decide_eq_false (by rw [Option.map_some]; intro z; exact hw (Option.some.inj z))
        rw [decide_eq_false (fun z => hw (V.str.inj z))]
        refine iteF (A := True) ?_
        refine ⟨sm.trans sT, ?_⟩
        rw [List.range_succ, List.filter_append, List.filter_cons_of_neg (by rw [sa]; exact Bool.false_ne_true), List.filter_nil, List.append_nil]; exact hks2
    rintro H22 ⟨s22, hks⟩
    have hyl : ys.length = Tr.flat.length := B13.s.1
    rw [hyl] at hks
    have kl2 : (sitesOf Tr).length ≤ ys.length := by
      have := List.length_filter_le (siteAt Tr) (List.range Tr.flat.length)
      rw [List.length_range] at this
      rw [hyl]; exact this
    have klt : ∀ k ∈ sitesOf Tr, k < ys.length := fun k hk => by rw [hyl]; exact List.mem_range.mp (List.mem_filter.mp hk).1
    have hks : H22 D = some (.lst ((sitesOf Tr).map fun n => V.int (n : Nat))) := hks
    generalize eks : sitesOf Tr = ks at hks kl2 klt
    refine ⟨D, _, rfl, .inl ⟨SqL.of hks, fun t12 ht12 => ?_⟩⟩
    have s23 := s22.trans (same_new ht12 (.tup (ks.map fun n => V.int (n : Nat))))
    obtain ⟨fs, o1, z1, P14, B14⟩ := ((B13.same s23).addq (a := t12) (SqT.of upd_same)).set (P13.same s23) Ao (k := "sites") (.ref t12) rfl
    refine ⟨_, rfl, x, _, dx, fs, rfl, o1, T.cl_Program, T.n_Program_sites, z1, ?_⟩
    generalize upd (upd H22 t12 (.tup (ks.map fun n => V.int (n : Nat)))) x (.ins T.C_Program dx (putF "sites" (.ref t12) fs)) = H23 at P14 B14 ⊢
    clear s23 o1 z1 ht12 B13 P13 hks s22 hD
    -- site_scopes
    refine ⟨_, rfl, x, _, dx, _, _, rfl, P14.o, T.cl_Program, T.n_Program_sites, P14.get 11 rfl rfl, t12, rfl, ⟨_, B14.q (t12, ks.map fun n => V.int (n : Nat)) (by simp)⟩, fun D hD => ?_⟩
    refine lc_tup (xs := ks.map fun n => V.int (n : Nat)) (fun i H' => Same H23 H' ∧ ∃ us : List V, H' D = some (.lst us) ∧ us.length = i ∧ TupsAt H' us ((ks.take i).map (arL Tr))) ⟨same_new hD _, [], upd_same, rfl, .nil⟩ ?_ ?_ ?_
    · rintro i H' _ ⟨sm, _⟩
      exact (B14.same sm).q (t12, ks.map fun n => V.int (n : Nat)) (by simp)
    · rintro i y H' hy ⟨sm, us, hus, ul, ut⟩
      rw [List.getElem?_map] at hy
      obtain ⟨k, hk, rfl⟩ := Option.map_eq_some_iff.mp hy
      have hkl := klt k (List.mem_of_getElem? hk)
      have hil := (List.getElem?_eq_some_iff.mp hk).1
      have hkp : k < (fin_ Tr).pts.length := by omega
      have hsd : (fin_ Tr).pts[k] < (fin_ Tr).depths.length := by rw [fin_depths]; exact fin_pt Tr (List.getElem_mem hkp)
      have Ps := P14.same sm
      have Bs := B14.same sm
      have d5 := dep5 Tr h5 _ (List.getElem_mem hsd)
      refine ⟨rfl, _, rfl, x, dx, _, rfl, Ps.o, lookup_zip_none (by decide +kernel), _, rfl, x, _, dx, _, _, rfl, Ps.o, T.cl_Program, T.n_Program_point_scopes, Ps.get 7 rfl rfl, _, rfl, t8, _, _, .int ((fin_ Tr).pts[k] : Nat), rfl, rfl, Bs.q (t8, (fin_ Tr).pts.map fun n => V.int (n : Nat)) (by simp), nt_at (List.getElem?_eq_getElem hkp), ?_⟩
      refine ⟨x, dx, t5, _, (fin_ Tr).pts[k], (fin_ Tr).depths[(fin_ Tr).pts[k]], (fin_ Tr).parents, (fin_ Tr).depths, rfl, Ps.o, Ps.get 4 rfl rfl, Bs.q (t5, (fin_ Tr).parents.map opV) (by simp), chain_fin Tr, List.getElem?_eq_getElem hsd, by omega, fun t H24 s24 f24 e24 => ?_⟩
      refine ⟨us, s24 _ _ hus, by rw [ul]; exact small1000 (by omega), fun c o hc => ?_, us ++ [.ref t], upd_same, by simp [ul], ?_⟩
      · rw [upd_ne (ne_of_none hc hD)]; exact s24 _ _ (sm _ _ hc)
      · have hD24 := s24 _ _ hus
        rw [take_snoc hk, List.map_append]
        have ear : arL Tr k = (around (fin_ Tr).parents 6 (fin_ Tr).pts[k]).map fun n => V.int (n : Nat) := by unfold arL; rw [List.getD_eq_getElem?_getD, List.getElem?_eq_getElem hkp]; rfl
        refine TupsAt.snoc (ut.mono fun c vs hc => ?_) ?_
        · rw [upd_ne (ne_of (s24 _ _ hc) hD24 (by intro z; cases z))]; exact s24 _ _ hc
        · rw [upd_ne (ne_of e24 hD24 (by intro z; cases z)), ear]; exact e24
    rintro H24 ⟨s24, us2, hus2, ul2, ut2⟩
    rw [List.length_map, List.take_length] at ut2
    refine ⟨D, _, rfl, .inl ⟨SqL.of hus2, fun t13 ht13 => ?_⟩⟩
    have s25 := s24.trans (same_new ht13 (.tup us2))
    obtain ⟨fs, o1, z1, P15, B15⟩ := (((B14.same s25).addq (a := t13) (SqT.of upd_same)).addt (ut2.mono fun c vs hc => same_new ht13 (.tup us2) _ _ hc)).set (P14.same s25) Ao (k := "site_scopes") (.ref t13) rfl
    refine ⟨_, rfl, x, _, dx, fs, rfl, o1, T.cl_Program, T.n_Program_site_scopes, z1, ?_⟩
    refine q _ P15.b P15.tb ⟨dx, t1, t2, t4, t5, t6, t7, t8, t9, t10, t11, t12, t13, z, P15.o, B15.q (t5, (fin_ Tr).parents.map opV) (by simp), B15.q (t6, (fin_ Tr).depths.map fun n => V.int (n : Nat)) (by simp), ⟨ls, B15.q (t7, ls.map fun n => V.int (n : Nat)) (by simp), els.symm⟩, B15.q (t8, (fin_ Tr).pts.map fun n => V.int (n : Nat)) (by simp), B15.q (t9, (fin_ Tr).pts.map fun s => V.int (((fin_ Tr).depths.getD s 0 : Nat))) (by simp), ⟨zs, B15.q (t10, zs) (by simp), B15.t (zs, (Tr.pE 0 1).map Edge.vals) (by simp)⟩, ⟨ws, B15.q (t11, ws) (by simp), B15.t (ws, (List.range (Tr.len + 1)).map (stopsOf (Tr.pE 0 1))) (by simp)⟩,
      B15.q (t1, (Tr.flat.map Stm.txt).map V.str) (by simp), by rw [eks]; exact B15.q (t12, ks.map fun n => V.int (n : Nat)) (by simp), ⟨us2, B15.q (t13, us2) (by simp), by rw [eks]; exact B15.t (us2, ks.map (arL Tr)) (by simp)⟩, ⟨ys, B15.q (t2, ys) (by simp), B15.s⟩, by rw [hgu]; exact B15.q (t4, us) (by simp), vz⟩
theorem ok_prog {PT : Addr} (T : Tx K w mg) (G_statement_of : FnOk P w K mg base CX0 3 T.f_statement_of T.d_statement_of ["line"] (spStmt K PT)) (G_variables_of : FnOk P w K mg base CX0 1 T.f_variables_of T.d_variables_of ["statements"] (spVars K)) : FnOk P w K mg base CX0 4 T.f_Program_init T.d_Program_init ["self", "text"] (spProg K T.C_Program PT) :=
  (ok_progW T G_statement_of G_variables_of).imp fun vs H Q E h => by
    obtain ⟨x, dx, Tr, lo, e, hx, hP, tok, hz, hl4, q⟩ := h
    exact ⟨x, dx, Tr, lo, _, e, hx, hP, tok, by rw [List.length_map]; have := tok.2.2.2.1; omega, fun z hm => ⟨(hz z hm).1, (hz z hm).2.1⟩, hl4, clean_id fun z hm => (hz z hm).2.2, q⟩
end
end Kp
end
section
set_option Elab.async false
set_option linter.all false
set_option maxRecDepth 100000
set_option maxHeartbeats 4000000
namespace Kp
open PySem L2
section
variable {P : Program} {w : World} {K : PySem.W.Frag} {mg : Str → Option Value} {base : Heap}
theorem scN_pool : FnScope ["script", "cell"] ["script"] (defScope s_L_pool) := ⟨rfl, rfl, rfl, by decide +kernel, rfl, by decide +kernel, by decide +kernel⟩
def zig (n : Int) : Int := if 0 ≤ n then 2 * n else -2 * n - 1
theorem zig_ge (n : Int) : 0 ≤ zig n := by unfold zig; split <;> omega
theorem ok_pool (T : Tx K w mg) : FnOk P w K mg base CX0 1 T.f_L_pool T.d_L_pool ["script"] (spPool K) := by
  refine T.L_pool.F.ok scN_pool (fun vs H Q E h => ?_) (fun cdv A outer s H vs Q E hr h => ?_)
  · obtain ⟨a, ns, rfl, _⟩ := h
    rfl
  · obtain ⟨a, ns, rfl, hS, hlen, q⟩ := h
    refine ⟨_, pss_one (ps_ret (pe_lst (pa_cons
      (pe_lc (own := [("cell", 1)]) (g := gName 1) (tt := tYes) rfl scN_pool.nd (pi_list (pv 0)) (blkOk_by (own := [("cell", 1)]) (N := ["script", "cell"]) (sc := defScope s_L_pool) (by decide +kernel))
        (fun _ _ _ _ _ => pg_name (i := 1) scN_pool.nd rfl (Or.inl rfl)) (fun _ _ _ _ _ => pts_nil)
        (fun _ _ _ _ _ => pe_ifExp (pt_cmpR op_ge (pv 1) pe_int (nomark _)) (pe_op op_mul pe_int (pv 1)) (pe_op op_sub (pe_op op_mul (pe_un un_neg pe_int) (pv 1)) pe_int)))
      (pa_cons pe_int (pa_cons pe_int (pa_cons pe_int pa_nil)))))), ?_⟩
    refine ⟨_, rfl, a, rfl, ⟨_, hS⟩, fun D hD => ?_⟩
    have s1 : Same H (upd H D (.lst [])) := same_new hD _
    refine lc_list (K := K) (a := a) (xs := ns.map V.int) (fun i H' => Same H H' ∧ H' D = some (.lst ((ns.take i).map fun n => V.int (zig n)))) ⟨s1, upd_same⟩ (fun i H' _ h => h.1.seq hS) ?_ ?_
    · rintro i x H' hx ⟨sm, hD'⟩
      obtain ⟨n, hn, rfl⟩ : ∃ n, ns[i]? = some n ∧ x = V.int n := by
        rw [List.getElem?_map] at hx
        cases e : ns[i]? with
        | none => rw [e] at hx; cases hx
        | some n => rw [e] at hx; exact ⟨n, rfl, (Option.some.inj hx).symm⟩
      have hi : i < ns.length := (List.getElem?_eq_some_iff.mp hn).1
      have fin : ∀ m : Int, m = zig n → ∃ acc, H' D = some (.lst acc) ∧ acc.length < sizeLine ∧ (Same H (upd H' D (.lst (acc ++ [.int m]))) ∧ (upd H' D (.lst (acc ++ [.int m]))) D = some (.lst ((ns.take (i + 1)).map fun n => V.int (zig n)))) := fun m hm => by
        refine ⟨_, hD', ?_, ?_, ?_⟩
        · rw [List.length_map, List.length_take]; exact small1000 (by omega)
        · intro b o e
          rw [upd_ne (ne_of_none e hD)]
          exact sm b o e
        · rw [upd_same, List.take_add_one, hn, List.map_append, hm]; rfl
      refine ⟨rfl, _, rfl, _, _, rfl, rfl, _, rfl, ?_⟩
      refine ite2 (fun c => ?_) (fun c => ?_)
      · have c' : (0 : Int) ≤ n := of_decide_eq_true c
        refine ⟨_, rfl, _, _, rfl, rfl, .inl ⟨by decide, by decide⟩, fin _ ?_⟩
        unfold zig; rw [if_pos c']
      · have c' : ¬ (0 : Int) ≤ n := of_decide_eq_false (Bool.eq_false_iff.mpr c)
        refine ⟨_, rfl, _, rfl, _, _, rfl, rfl, .inl ⟨by decide, by decide⟩, _, _, rfl, rfl, fin _ ?_⟩
        unfold zig; rw [if_neg c']
    · rintro H' ⟨sm, hD'⟩
      refine ⟨by show 4 ≤ sizeLine; decide, fun p hp => ?_⟩
      have nDp : D ≠ p := ne_of_none hD' hp
      refine q p D _ (sm.trans (same_new hp _)) (sm.free hp) hD ⟨ns.map zig, 0, 0, 17, upd_same, ?_, by decide, by decide, by decide, by decide, fun n hn => ?_⟩
      · rw [upd_ne nDp, hD', List.length_map, List.take_length, List.map_map]; rfl
      · obtain ⟨m, _, rfl⟩ := List.mem_map.mp hn; exact zig_ge m
end
end Kp
end
section
set_option Elab.async false
set_option linter.all false
set_option maxRecDepth 100000
set_option maxHeartbeats 4000000
namespace Kp
open PySem L2

open Ka
def rLenOf (K : PySem.W.Frag) : List V → Hp → VK → Prop := fun xs H Q => ∃ p ys, xs = [V.ref p] ∧ (SqL K H p ys ∨ SqT K H p ys) ∧ Q (.int ys.length) H
theorem ProgAt.same {K : PySem.W.Frag} {C x : Addr} {H H' : Hp} {T : Ka.Tree} (h : ProgAt K C H x T) (e : Same H H') : ProgAt K C H' x T := by
  obtain ⟨dx, a1, a2, a4, a5, a6, a7, a8, a9, a10, a11, a12, a13, z, ho, h5, h6, ⟨ls, h7, e7⟩, h8, h9, ⟨xs, h10, t10⟩, ⟨ys, h11, t11⟩, h12, h13, ⟨zs, h14, t14⟩, ⟨us, h15, t15⟩, h16, h17⟩ := h
  have k := Same.keepT (K := K) e
  exact ⟨dx, a1, a2, a4, a5, a6, a7, a8, a9, a10, a11, a12, a13, z, e _ _ ho, k _ _ h5, k _ _ h6, ⟨ls, k _ _ h7, e7⟩, k _ _ h8, k _ _ h9, ⟨xs, k _ _ h10, t10.keep e⟩, ⟨ys, k _ _ h11, t11.keep e⟩, k _ _ h12, k _ _ h13, ⟨zs, k _ _ h14, t14.keep e⟩, ⟨us, k _ _ h15, t15.keep k⟩, k _ _ h16, h17⟩
theorem MadeAt.kp {H H' : Hp} {M : Addr} {m : Mst} (h : MadeAt H M m) (k : ∀ a o, H a = some o → (∀ ps, o ≠ .tbl ps) → H' a = some o) : MadeAt H' M m := by
  obtain ⟨a1, a2, a3, a4, a5, a6, a7, xs, es, hM, R⟩ := h
  have kl : ∀ a ys, H a = some (.lst ys) → H' a = some (.lst ys) := fun a ys q => k a _ q (fun ps z => by cases z)
  have kt : ∀ a ys, H a = some (.tup ys) → H' a = some (.tup ys) := fun a ys q => k a _ q (fun ps z => by cases z)
  exact ⟨a1, a2, a3, a4, a5, a6, a7, xs, es, k _ _ hM (fun ps z => by cases z), kl _ _ R.l1, kl _ _ R.l2, R.t2.mono kt, kl _ _ R.l3, kl _ _ R.l4, kl _ _ R.l5, kl _ _ R.l6, kl _ _ R.l7, R.t7.mono kt⟩
theorem new_ne_of {H : Hp} {a b : Addr} {o : HO} (h : H a = none) (g : H b = some o) : a ≠ b := fun z => by rw [z, g] at h; cases h
theorem tab_but {PT : Addr} {H H' : Hp} {ms : List Addr} (h : GxR.TabG H PT) (b : But ms H H') (n : PT ∉ ms) : GxR.TabG H' PT := by
  obtain ⟨ps, q, r⟩ := h
  exact ⟨ps, b _ _ q n, r⟩
theorem rising_hi {lo hi hi' : Nat} (q : hi ≤ hi') : ∀ {l : List Edge}, Rising lo hi l → Rising lo hi' l
  | [], h => Nat.le_trans h q
  | e :: l, h => ⟨h.1, Nat.lt_of_lt_of_le h.2.1 q, rising_hi q h.2.2⟩
theorem gather_l (T : Ka.Tree) : ((List.range (T.len + 1)).map (fun p => (T.lE 0 1).filter (from_ p))).flatten = T.pE 0 1 := by
  have := gather (T.len + 1) 0 (T.pE 0 1) (rising_hi (by omega) (pE_rising T 0 1))
  rw [List.range_eq_range']
  rw [← this]
  congr 1
  exact List.map_congr_left fun p _ => lE_pE T 0 1 p
theorem stops_l (T : Ka.Tree) (p : Nat) : stopsOf (T.lE 0 1) p = stopsOf (T.pE 0 1) p := by unfold stopsOf; rw [lE_pE]
theorem pE_count (T : Ka.Tree) : ∀ k n, (T.pE k n).length ≤ 2 * T.len := by
  induction T with
  | nil => intro k n; exact Nat.le_refl _
  | ln l r ih => intro k n; simp only [Tree.pE, Tree.len, List.length_cons]; have := ih (k + 1) n; omega
  | blk w b r ihb ihr =>
    intro k n
    have h1 := ihb (k + 1) (n + 1)
    have h2 := ihr (k + 2 + b.len) (n + 1 + b.nsc)
    cases w <;> simp only [Tree.pE, Tree.len, List.length_cons, List.length_append, if_true, if_false, Bool.false_eq_true, List.length_nil] <;> omega
  | br a b r iha ihb ihr =>
    intro k n
    have h1 := iha (k + 1) (n + 1)
    have h2 := ihb (k + 2 + a.len) (n + 2 + a.nsc)
    have h3 := ihr (k + 3 + a.len + b.len) (n + 2 + a.nsc + b.nsc)
    simp only [Tree.pE, Tree.len, List.length_cons, List.length_append]; omega
theorem lE_count (T : Ka.Tree) : ∀ k n, (T.lE k n).length = (T.pE k n).length := by
  induction T with
  | nil => intro k n; rfl
  | ln l r ih => intro k n; simp only [Tree.pE, Tree.lE, List.length_cons, ih]
  | blk w b r ihb ihr => intro k n; cases w <;> simp only [Tree.pE, Tree.lE, List.length_cons, List.length_append, ihb, ihr, if_true, if_false, Bool.false_eq_true, List.length_nil] <;> omega
  | br a b r iha ihb ihr => intro k n; simp only [Tree.pE, Tree.lE, List.length_cons, List.length_append, iha, ihb, ihr] <;> omega
/-- two tuples of tuples of the same scalars -/
theorem eq_tups {K : PySem.W.Frag} {H : Hp} {n : Nat} {a b : Addr} {xs ys : List V} {vss : List (List V)} (h1 : SqT K H a xs) (h2 : SqT K H b ys) (t1 : TupsAt H xs vss) (t2 : TupsAt H ys vss) (hl : vss.length ≤ 1000) (hs : ∀ vs ∈ vss, vs.length ≤ 1000 ∧ ∀ v ∈ vs, scal1 v = true) : Eq2 K H (n + 2) (.ref a) (.ref b) := by
  refine Eq2.tup h1 h2 (by rw [t1.length, t2.length]) (by rw [t1.length]; exact hl) fun i x y hx hy => ?_
  obtain ⟨c, vs, rfl, hv, hc⟩ := t1.get hx
  obtain ⟨d, us, rfl, hu, hd⟩ := t2.get hy
  have e : us = vs := by rw [hv] at hu; exact (Option.some.inj hu).symm
  subst e
  obtain ⟨z1, z2⟩ := hs us (List.mem_of_getElem? hv)
  exact Eq2.flat (SqT.of hc) (SqT.of hd) z1 z2
theorem scal_edge (e : Edge) : ∀ v ∈ e.vals, scal1 v = true := by
  intro v hv
  simp only [Edge.vals, List.mem_cons, List.not_mem_nil, or_false] at hv
  rcases hv with h | h | h <;> rw [h] <;> rfl
theorem scal_ints (l : List Nat) : ∀ v ∈ l.map (fun n => V.int (n : Nat)), scal1 v = true := by
  intro v hv
  obtain ⟨n, _, rfl⟩ := List.mem_map.mp hv
  rfl
theorem scal_ops (l : List (Option Nat)) : ∀ v ∈ l.map opV, scal1 v = true := by
  intro v hv
  obtain ⟨n, _, rfl⟩ := List.mem_map.mp hv
  cases n <;> rfl
theorem fin_pts_lsc (T : Ka.Tree) : (fin_ T).pts = T.lsc 0 1 ++ [0] := by
  show [0] ++ T.pts 0 1 = _
  rw [← pts_lsc]; rfl
theorem law_whl (k : Kd) : decide (V.str k.law = V.str ("while" : Str)) = decide (k = .whl) := by cases k <;> decide +kernel
end Kp
end
section
set_option Elab.async false
set_option linter.all false
set_option maxRecDepth 100000
set_option maxHeartbeats 4000000
namespace Kp
open PySem L2

open Ka
/-- a value that says nothing -/
def asgN (v : Str) : Bool := !isV v && (!isN v && (!(isV (cutS v none (some 1)) && (decide (cutS v (some 1) none = (".head" : Str)) || decide (cutS v (some 1) none = (".tail" : Str)))) &&
  !(isV (cutS v (some 1) (some 2)) && (isV (cutS v (some 4) (some 5)) && decide (v = ((((Str.empty ++ ("[" : Str)) ++ cutS v (some 1) (some 2)) ++ (", " : Str)) ++ cutS v (some 4) (some 5)) ++ ("]" : Str))))))
section
variable {P : Program} {w : World} {K : PySem.W.Frag} {mg : Str → Option Value} {base : Heap}
def spAsgN (PT : Addr) : Sp := fun vs H Q _ => ∃ (n v : Str), vs = [.str n, .str v] ∧ v.length ≤ 40 ∧ asgN v = true ∧ GxR.TabG H PT ∧ ∀ (H' : Hp), But [PT] H H' → GxR.TabG H' PT → Q .non H'
theorem ok_asgN {c PT : Addr} (T : Tx K w mg) (TB : GxR.TabB base mg c PT) (hcd : T.d_is_number.code = .ref c) : FnOk P w K mg base CX0 2 T.f_assignment_of T.d_assignment_of ["name", "value"] (spAsgN PT) := by
  have G_is_variable := ok_isv (P := P) (base := base) T
  have G_is_number := ok_isn (P := P) (base := base) T TB hcd
  refine T.assignment_of.F.ok scN_asg (fun vs H Q E h => ?_) (fun cdv A outer s H vs Q E hr h => ?_)
  · obtain ⟨n, v, rfl, _⟩ := h
    rfl
  · obtain ⟨n, v, rfl, vl, hv, tab, q⟩ := h
    unfold asgN at hv
    simp only [Bool.and_eq_true, Bool.not_eq_true'] at hv
    obtain ⟨n1, n2, n3, n4⟩ := hv
    refine ⟨_, (Evl.pss_cut (ps_if (pt_val (pe_call G_is_variable hr (by rfl) T.is_variable.g T.is_variable.F.kp T.is_variable.b .nil pass0 (pa_cons (pv 1) pa_nil))) (pss_one (ps_ret (pe_tup (pa_cons pe_str (pa_cons (pv 0) (pa_cons (pv 1) pa_nil)))))) pss_nil)
        (Evl.pss_cut (ps_if (pt_val (pe_call G_is_number hr (by rfl) T.is_number.g T.is_number.F.kp T.is_number.b .nil pass0 (pa_cons (pv 1) pa_nil))) (pss_one (ps_ret (pe_tup (pa_cons pe_str (pa_cons (pv 0) (pa_cons (pe_callTy call_int_str (by rfl) T.B.int (by decide +kernel) (pa_cons (pv 1) pa_nil)) pa_nil)))))) pss_nil)
        (Evl.pss_cut (ps_if (PW.pt (pw_and (pt_val (pe_call G_is_variable hr (by rfl) T.is_variable.g T.is_variable.F.kp T.is_variable.b .nil pass0 (pa_cons (pe_slice sl_str (pv 1) po_none (po_some pe_int)) pa_nil))) (pw_and1 (pt_cmpR op_in_seq (pe_slice sl_str (pv 1) (po_some pe_int) po_none) (pe_tup (pa_cons pe_str (pa_cons pe_str pa_nil))) (by rfl))))) (pss_one (ps_ret (pe_tup (pa_cons (pe_slice sl_str (pv 1) (po_some pe_int) po_none) (pa_cons (pv 0) (pa_cons (pe_ix ix_str (pv 1) pe_int (fun _ _ => rfl)) pa_nil)))))) pss_nil)
        (pss_cons (ps_set (i := 2) scN_asg.nd rfl (.inl rfl) (pe_slice sl_str (pv 1) (po_some pe_int) (po_some pe_int)))
        (pss_cons (ps_set (i := 3) scN_asg.nd rfl (.inl rfl) (pe_slice sl_str (pv 1) (po_some pe_int) (po_some pe_int)))
        (Evl.pss_cut (ps_if (PW.pt (pw_and (pt_val (pe_call G_is_variable hr (by rfl) T.is_variable.g T.is_variable.F.kp T.is_variable.b .nil pass0 (pa_cons (pv 2) pa_nil))) (pw_and (pt_val (pe_call G_is_variable hr (by rfl) T.is_variable.g T.is_variable.F.kp T.is_variable.b .nil pass0 (pa_cons (pv 3) pa_nil))) (pw_and1 (pt_cmpR op_eq (pv 1) (pe_joined (.cons pe_str (.cons (pe_fmt (pv 2)) (.cons pe_str (.cons (pe_fmt (pv 3)) (.cons pe_str .nil)))))) (nomark _)))))) (pss_one (ps_ret (pe_tup (pa_cons pe_str (pa_cons (pv 0) (pa_cons (pv 2) (pa_cons (pv 3) pa_nil))))))) pss_nil)
        (pss_one (ps_ret pe_non)))))))), ?_⟩
    have new : ∀ {H' : Hp} {p : Addr} {o : List V}, H' p = none → GxR.TabG H' PT → But [PT] H' (upd H' p (.tup o)) ∧ GxR.TabG (upd H' p (.tup o)) PT := fun {H' p o} hp ht => by
      obtain ⟨ps, e, r⟩ := ht
      exact ⟨But.same (same_new hp _) _, ps, same_new hp _ _ _ e, r⟩
    have cl : ∀ a b, (cutS v a b).length ≤ 40 := fun a b => Nat.le_trans (cutS_length v a b) vl
    refine ⟨fun σ' H' => σ' = [some (.str n), some (.str v), none, none] ∧ H' = H, ?_, ?_⟩
    · refine ⟨_, rfl, _, rfl, by omega, ?_⟩
      rw [n1]
      exact ⟨_, rfl, iteF (A := True) ⟨rfl, rfl⟩⟩
    rintro σ' H0 ⟨rfl, rfl⟩
    refine ⟨fun σ' H' => σ' = [some (.str n), some (.str v), none, none] ∧ But [PT] H0 H' ∧ GxR.TabG H' PT, ?_, ?_⟩
    · refine ⟨_, rfl, _, rfl, by omega, tab, fun H1 b1 t1 => ?_⟩
      rw [n2]
      exact ⟨_, rfl, iteF (A := True) ⟨rfl, b1, t1⟩⟩
    rintro σ' H1 ⟨rfl, b1, t1⟩
    refine ⟨fun σ' H' => σ' = [some (.str n), some (.str v), none, none] ∧ But [PT] H0 H' ∧ GxR.TabG H' PT, ?_, ?_⟩
    · refine ⟨_, rfl, _, rfl, _, rfl, small30 (by omega), ?_⟩
      refine ⟨_, rfl, by have := cl none (some 1); omega, ?_⟩
      cases c1 : isV (cutS v none (some 1)) with
      | false => exact ⟨_, rfl, iteF (A := True) (iteF (A := True) ⟨rfl, b1, t1⟩)⟩
      | true =>
        refine ⟨_, rfl, iteT (B := True) ?_⟩
        refine ⟨_, rfl, _, rfl, _, rfl, small30 (by omega), ?_⟩
        refine ⟨by show 2 ≤ sizeLine; decide, fun r hr2 => ?_⟩
        obtain ⟨b2, t2⟩ := new hr2 t1
        refine ⟨r, [.str (".head" : Str), .str (".tail" : Str)], rfl, .inr (SqT.of upd_same), rfl, rfl, _, rfl, ?_⟩
        rw [c1, Bool.true_and, Bool.or_eq_false_iff] at n3
        have ei : inV (V.str (cutS v (some 1) none)) [.str (".head" : Str), .str (".tail" : Str)] = false := by
          show (eqV (.str (".head" : Str)) (.str (cutS v (some 1) none)) || (eqV (.str (".tail" : Str)) (.str (cutS v (some 1) none)) || false)) = false
          rw [show eqV (.str (".head" : Str)) (.str (cutS v (some 1) none)) = false from decide_eq_false (fun z => of_decide_eq_false n3.1 z.symm), show eqV (.str (".tail" : Str)) (.str (cutS v (some 1) none)) = false from decide_eq_false (fun z => of_decide_eq_false n3.2 z.symm)]
          rfl
        rw [ei]
        exact iteF (A := True) ⟨rfl, b1.trans b2, t2⟩
    rintro σ' H2 ⟨rfl, b2, t2⟩
    have l1 := cl (some 1) (some 2)
    have l2 := cl (some 4) (some 5)
    refine ⟨_, rfl, _, rfl, _, rfl, _, rfl, small30 (by omega), ?_⟩
    refine ⟨_, rfl, _, rfl, _, rfl, _, rfl, small30 (by omega), ?_⟩
    refine ⟨fun σ' H' => H' = H2, ?_, ?_⟩
    · refine ⟨_, rfl, _, rfl, by omega, ?_⟩
      cases c1 : isV (cutS v (some 1) (some 2)) with
      | false => exact ⟨_, rfl, iteF (A := True) (iteF (A := True) rfl)⟩
      | true =>
        refine ⟨_, rfl, iteT (B := True) ?_⟩
        refine ⟨_, rfl, _, rfl, by omega, ?_⟩
        cases c2 : isV (cutS v (some 4) (some 5)) with
        | false => exact ⟨_, rfl, iteF (A := True) (iteF (A := True) rfl)⟩
        | true =>
          refine ⟨_, rfl, iteT (B := True) ?_⟩
          rw [c1, c2, Bool.true_and, Bool.true_and] at n4
          have le : ∀ {n : Nat}, n ≤ 900 → n ≤ sizeLine := fun h => small30 (by omega)
          have z0 : Str.empty.length = 0 := rfl
          have z1 : ("[" : Str).length = 1 := by decide +kernel
          have z2 : (", " : Str).length = 2 := by decide +kernel
          have z3 : ("]" : Str).length = 1 := by decide +kernel
          refine ⟨_, rfl, _, rfl, le (by simp only [len_app, z0, z1]; omega), _, rfl, .inl ⟨_, rfl, le (by omega), _, rfl, le (by simp only [len_app, z0, z1]; omega), _, rfl, le (by simp only [len_app, z0, z1, z2]; omega), _, rfl, .inl ⟨_, rfl, le (by omega), _, rfl, le (by simp only [len_app, z0, z1, z2]; omega), _, rfl, le (by simp only [len_app, z0, z1, z2, z3]; omega), ?_⟩⟩⟩
          refine ⟨rfl, _, rfl, ?_⟩
          rw [decide_eq_false (fun z => of_decide_eq_false n4 (V.str.inj z))]
          exact iteF (A := True) rfl
    rintro σ' H3 rfl
    exact q _ b2 t2
/-- a row that says nothing -/
def stmN (z : Str) : Bool := decide (z.length ≤ 40) && (decide (z ∉ (["{", "if ? {", "} else {", "while ? {", "}"] : List Str)) && (!(Txt.startswith z ("print " : Str) && isV (cutS z (some 6) none)) &&
  (!(isV (cutS z none (some 1)) && decide (cutS z (some 1) (some 4) = (" = " : Str))) || (asgN (cutS z (some 4) none) && (z.cps.toList.head?.isSome)))))
def spStmN (PT : Addr) : Sp := fun vs H Q _ => ∃ (z : Str), vs = [.str z] ∧ stmN z = true ∧ GxR.TabG H PT ∧ ∀ (H' : Hp), But [PT] H H' → GxR.TabG H' PT → Q .non H'
theorem ok_stmN {c PT : Addr} (T : Tx K w mg) (no : ∀ z : Str, z ∉ (["{", "if ? {", "} else {", "while ? {", "}"] : List Str) → PySem.W.nsIn K T.a_SCOPE_LINES z = some none) (TB : GxR.TabB base mg c PT) (hcd : T.d_is_number.code = .ref c) : FnOk P w K mg base CX0 3 T.f_statement_of T.d_statement_of ["line"] (spStmN PT) := by
  have G_is_variable := ok_isv (P := P) (base := base) T
  have G_assignment_of := ok_asgN (P := P) (base := base) T TB hcd
  refine T.statement_of.F.ok scN_stm (fun vs H Q E h => ?_) (fun cdv A outer s H vs Q E hr h => ?_)
  · obtain ⟨z, rfl, _⟩ := h
    rfl
  · obtain ⟨z, rfl, hz, tab, q⟩ := h
    have hr1 := hr.mono (by decide : 1 ≤ 2)
    unfold stmN at hz
    simp only [Bool.and_eq_true, Bool.or_eq_true, Bool.not_eq_true', decide_eq_true_eq] at hz
    obtain ⟨zl, nk, n1, n2⟩ := hz
    have cl : ∀ a b, (cutS z a b).length ≤ 40 := fun a b => Nat.le_trans (cutS_length z a b) zl
    refine ⟨_, (Evl.pss_cut (ps_if (pt_cmpR (op_in_kd T.t_SCOPE_LINES) (pv 0) (pe_glob (v := .ref T.a_SCOPE_LINES) rfl T.k_SCOPE_LINES rfl) (by rfl)) (pss_one (ps_ret (pe_kget T.t_SCOPE_LINES (pe_glob (v := .ref T.a_SCOPE_LINES) rfl T.k_SCOPE_LINES rfl) (pv 0) (fun _ _ => rfl)))) pss_nil)
        (Evl.pss_cut (ps_if (PW.pt (pw_and (pt_val (pe_m1 PySem.F.slot_str_startswith PySem.F.type_str_startswith mt_startswith (pv 0) pe_str)) (pw_and1 (pt_val (pe_call G_is_variable hr1 (by rfl) T.is_variable.g T.is_variable.F.kp T.is_variable.b .nil pass0 (pa_cons (pe_slice sl_str (pv 0) (po_some pe_int) po_none) pa_nil)))))) (pss_one (ps_ret (pe_tup (pa_cons pe_str (pa_cons (pe_slice sl_str (pv 0) (po_some pe_int) po_none) pa_nil))))) pss_nil)
        (Evl.pss_cut (ps_if (PW.pt (pw_and (pt_val (pe_call G_is_variable hr1 (by rfl) T.is_variable.g T.is_variable.F.kp T.is_variable.b .nil pass0 (pa_cons (pe_slice sl_str (pv 0) po_none (po_some pe_int)) pa_nil))) (pw_and1 (pt_cmpR op_eq (pe_slice sl_str (pv 0) (po_some pe_int) (po_some pe_int)) pe_str (nomark _))))) (pss_one (ps_ret (pe_call G_assignment_of hr (by rfl) T.assignment_of.g T.assignment_of.F.kp T.assignment_of.b .nil pass0 (pa_cons (pe_ix ix_str (pv 0) pe_int (fun _ _ => rfl)) (pa_cons (pe_slice sl_str (pv 0) (po_some pe_int) po_none) pa_nil))))) pss_nil)
        (pss_one (ps_ret pe_non))))), ?_⟩
    refine ⟨fun σ' H' => σ' = [some (.str z)] ∧ H' = H, ?_, ?_⟩
    · exact ⟨_, rfl, _, _, rfl, rfl, no _ nk, _, rfl, iteF (A := True) ⟨rfl, rfl⟩⟩
    rintro σ' H0 ⟨rfl, rfl⟩
    refine ⟨fun σ' H' => σ' = [some (.str z)] ∧ H' = H0, ?_, ?_⟩
    · refine ⟨_, rfl, ⟨_, rfl⟩, _, _, rfl, rfl, _, rfl, ?_⟩
      cases c1 : Txt.startswith z ("print " : Str) with
      | false => exact iteF (A := True) (iteF (A := True) ⟨rfl, rfl⟩)
      | true =>
        refine iteT (B := True) ?_
        refine ⟨_, rfl, _, rfl, _, rfl, small30 (by omega), ?_⟩
        refine ⟨_, rfl, by have := cl (some 6) none; omega, ?_⟩
        rw [c1, Bool.true_and] at n1
        rw [n1]
        exact ⟨_, rfl, iteF (A := True) ⟨rfl, rfl⟩⟩
    rintro σ' H1 ⟨rfl, rfl⟩
    refine ⟨fun σ' H' => H' = H1, ?_, ?_⟩
    · refine ⟨_, rfl, _, rfl, _, rfl, small30 (by omega), ?_⟩
      refine ⟨_, rfl, by have := cl none (some 1); omega, ?_⟩
      cases c1 : isV (cutS z none (some 1)) with
      | false => exact ⟨_, rfl, iteF (A := True) (iteF (A := True) rfl)⟩
      | true =>
        refine ⟨_, rfl, iteT (B := True) ?_⟩
        refine ⟨_, rfl, _, rfl, _, rfl, _, rfl, small30 (by omega), ?_⟩
        refine ⟨rfl, _, rfl, ?_⟩
        by_cases c2 : cutS z (some 1) (some 4) = (" = " : Str)
        · rw [decide_eq_true (show V.str (cutS z (some 1) (some 4)) = V.str (" = " : Str) by rw [c2])]
          refine iteT (B := True) ?_
          rcases n2 with n2 | ⟨n2, n3⟩
          · rw [c1, decide_eq_true c2] at n2; cases n2
          obtain ⟨x, hx⟩ := Option.isSome_iff_exists.mp n3
          refine ⟨_, rfl, _, 0, x, rfl, rfl, small30 (by omega), ?_, _, rfl, _, rfl, _, rfl, small30 (by omega), ?_⟩
          · rw [List.head?_eq_getElem?] at hx
            exact atI_nat (j := 0) hx
          exact ⟨_, _, rfl, cl _ _, n2, tab, q⟩
        · rw [decide_eq_false (fun e => c2 (V.str.inj e))]
          exact iteF (A := True) (iteF (A := True) rfl)
    rintro σ' H2 rfl
    exact q _ (But.refl _ _) tab
end
end Kp
end
section
set_option Elab.async false
set_option linter.all false
set_option maxRecDepth 100000
set_option maxHeartbeats 4000000
namespace Kp
open PySem L2

open Ka
section
variable {P : Program} {w : World} {K : PySem.W.Frag} {mg : Str → Option Value} {base : Heap}
/-- rows: a tree's first k, one that says nothing, any that say something or nothing -/
structure Rows3 (T : Ka.Tree) (lo k : Nat) (zs : List Str) : Prop where
  lo1 : 97 ≤ lo
  lo2 : lo + 6 ≤ 123
  ok : T.okT lo
  le : k ≤ T.flat.length
  len : zs.length ≤ 90
  flat : T.flat.length ≤ 80
  fore : ∀ (i : Nat) (s : Stm), i < k → T.flat[i]? = some s → zs[i]? = some s.txt
  bad : ∃ z, zs[k]? = some z ∧ stmN z = true
  all : ∀ z ∈ zs, (∃ s : Stm, z = s.txt ∧ ∀ l, s = .pl l → l.ok lo) ∨ stmN z = true
def spStmB (K : PySem.W.Frag) (PT : Addr) : Sp := fun vs H Q E => spStmt K PT vs H Q E ∨ spStmN PT vs H Q E
theorem ok_stmB {PT f : Addr} {fd : FuncData} {k : Nat} (F : FnOk P w K mg base CX0 k f fd ["line"] (spStmt K PT)) (G : FnOk P w K mg base CX0 k f fd ["line"] (spStmN PT)) : FnOk P w K mg base CX0 k f fd ["line"] (spStmB K PT) :=
  ⟨fun vs H Q E h => h.elim (F.len vs H Q E) (G.len vs H Q E), fun A outer s H args us vs Q E a b c d h => h.elim (F.run A outer s H args us vs Q E a b c d) (G.run A outer s H args us vs Q E a b c d)⟩
def spProgR (K : PySem.W.Frag) (C CB PT : Addr) : Sp := fun vs H _ E => ∃ (x dx : Addr) (T : Ka.Tree) (lo k : Nat) (ws : List Str), vs = [.ref x, .str (Txt.join ("\n" : Str) ws)] ∧ H x = some (.ins C dx []) ∧ GxR.TabG H PT ∧
  ws.length ≤ 400 ∧ (∀ z ∈ ws, 10 ∉ z.cps.toList ∧ z.length ≤ 900) ∧ (Txt.join ("\n" : Str) ws).length ≤ 4000 ∧ Rows3 T lo k (cleanR ws) ∧
  ∀ (d : Addr) (H' : Hp), But [x, PT] H H' → GxR.TabG H' PT → H' d = some (.xd [(("reason" : Str), .str ("statement" : Str)), (("line" : Str), .int (k : Nat))]) → E (.ref CB) (some d) H'
theorem ok_progR {PT : Addr} (hP : P = PySem.Challenge.pw_scopefree_k02_what_does_not_fit) (T : Tx K w mg) (G1 : FnOk P w K mg base CX0 3 T.f_statement_of T.d_statement_of ["line"] (spStmt K PT)) (G2 : FnOk P w K mg base CX0 3 T.f_statement_of T.d_statement_of ["line"] (spStmN PT)) : FnOk P w K mg base (L2.CX P w) 4 T.f_Program_init T.d_Program_init ["self", "text"] (spProgR K T.C_Program T.C_BadProgram PT) := by
  have G_lines_of := ok_linesW (P := P) (base := base) T
  have G_statement_of := ok_stmB G1 G2
  have G_layR := ok_layR (P := P) (base := base) hP T
  refine T.Program_init.F.okX scN_prog (fun vs H Q E h => ?_) (fun cdv A outer s H vs Q E hr h => ?_)
  · obtain ⟨x, dx, Tr, lo, k, ws, rfl, _⟩ := h
    rfl
  · obtain ⟨x, dx, Tr, lo, k, ws, rfl, hx, hP, wl, hz, hl4, R, q⟩ := h
    have hr1 := hr.mono (by decide : 1 ≤ 3)
    have hu := hu_of hr
    refine ⟨_, (pss_cons (ps_if (pt_cmpR op_gt (pe_callB call_len_str (by rfl) T.B.len PySem.boot_len (pa_cons (pv 1) pa_nil)) (pe_glob (v := .int 4000) rfl T.k_MOST_CHARACTERS.choose_spec ⟨_, rfl⟩) (nomark _)) (pss_one ps_never) pss_nil)
        (pss_cons (ps_fld (pv 0) (pe_call G_lines_of hr1 (by rfl) T.lines_of.g T.lines_of.F.kp T.lines_of.b .nil pass0 (pa_cons (pv 1) pa_nil)) rfl)
        (pss_cons (ps_fld (pv 0) (pe_callTy call_tuple_of (by rfl) T.B.tuple (by decide +kernel) (pa_cons (pe_lc (own := [("line", 3)]) (g := gName 3) (tt := tYes) rfl scN_prog.nd (pi_tup (pe_fld (pv 0) rfl)) (blkOk_by (own := [("line", 3)]) (N := ["self", "text", "layout", "line", "at", "kind", "scope", "told"]) (sc := defScope s_Program_init) (by decide +kernel)) (fun _ _ _ _ _ => (pg_name (i := 3) scN_prog.nd rfl (.inl rfl))) (fun _ _ _ _ _ => pts_nil) (fun _ _ _ _ _ => (pe_call G_statement_of hr (by rfl) T.statement_of.g T.statement_of.F.kp T.statement_of.b .nil pass0 (pa_cons (pv 3) pa_nil)))) pa_nil)) rfl)
        (pss_cons (ps_set (i := 2) scN_prog.nd rfl (.inr rfl) (pe_callS G_layR hr (by rfl) T.layout_of.g T.layout_of.F.kp T.layout_of.b (fun σ => passAt (takes_of rfl rfl rfl rfl) σ) (pa_cons (pe_fld (pv 0) rfl) pa_nil))) pss_never)))), ?_⟩
    have P0 : PSt T.C_Program x dx PT H H 0 [] := ⟨hx, rfl, But.refl _ _, hP⟩
    -- len(text)
    refine ⟨_, rfl, _, rfl, by have : (4002 : Nat) ≤ sizeLine := by decide +kernel
                               omega, _, _, rfl, rfl, _, rfl, ?_⟩
    rw [decide_eq_false (by omega)]
    refine iteF (A := True) ?_
    -- lines
    refine ⟨_, rfl, ws, rfl, by omega, hz, hl4, fun t1 H1 s1 f1 e1 => ?_⟩
    generalize cleanR ws = zs at R e1
    obtain ⟨fs, o1, z1, P1, b1⟩ := (P0.same s1).set (k := "lines") (v := .ref t1) rfl
    refine ⟨_, rfl, x, _, dx, fs, rfl, o1, T.cl_Program, T.n_Program_lines, z1, ?_⟩
    have q1 : SqT K (upd H1 x (.ins T.C_Program dx (putF "lines" (.ref t1) fs))) t1 (zs.map V.str) := (P0.same s1).sq (but_x b1) (SqT.of e1)
    generalize upd H1 x (.ins T.C_Program dx (putF "lines" (.ref t1) fs)) = H2 at P1 b1 q1 ⊢
    clear b1 o1 z1 e1 f1 s1 fs P0
    have zl := R.len
    -- statements
    refine ⟨_, rfl, x, _, dx, _, _, rfl, P1.o, T.cl_Program, T.n_Program_lines, P1.get 0 rfl rfl, t1, rfl, ⟨_, q1⟩, fun D hD => ?_⟩
    refine lc_tup (xs := zs.map V.str) (fun i H' => But [PT] H2 H' ∧ GxR.TabG H' PT ∧ ∃ ys, H' D = some (.lst ys) ∧ ys.length = i ∧ (∀ (j : Nat) (s : Stm), j < i → j < k → Tr.flat[j]? = some s → ∃ a, ys[j]? = some (.ref a) ∧ SqT K H' a s.vals) ∧ (k < i → ys[k]? = some .non)) ⟨But.new hD _, ?_, [], upd_same, rfl, (fun j s hj => by omega), fun h => by omega⟩ ?_ ?_ ?_
    · obtain ⟨ps, q, r⟩ := P1.tb
      exact ⟨ps, by rw [upd_ne (ne_of_none q hD)]; exact q, r⟩
    · rintro i H' _ ⟨b, _, _⟩
      exact P1.sq (but_pt b) q1
    · rintro i y H' hy ⟨b, tb, ys, hys, len, all, bad⟩
      rw [List.getElem?_map] at hy
      obtain ⟨z, hzi, rfl⟩ := Option.map_eq_some_iff.mp hy
      have hi : i < zs.length := (List.getElem?_eq_some_iff.mp hzi).1
      have nD : D ≠ PT := fun z => by obtain ⟨ps, q, _⟩ := tb; rw [← z, hys] at q; cases q
      have app : ∀ (v : V) (H3 : Hp), But [PT] H' H3 → GxR.TabG H3 PT → (i < k → ∀ s, Tr.flat[i]? = some s → ∃ a, v = .ref a ∧ SqT K H3 a s.vals) → (i = k → v = .non) → ∃ acc, H3 D = some (.lst acc) ∧ acc.length < sizeLine ∧ But [PT] H2 (upd H3 D (.lst (acc ++ [v]))) ∧ GxR.TabG (upd H3 D (.lst (acc ++ [v]))) PT ∧
          ∃ ys, (upd H3 D (.lst (acc ++ [v]))) D = some (.lst ys) ∧ ys.length = i + 1 ∧ (∀ (j : Nat) (s : Stm), j < i + 1 → j < k → Tr.flat[j]? = some s → ∃ a, ys[j]? = some (.ref a) ∧ SqT K (upd H3 D (.lst (acc ++ [v]))) a s.vals) ∧ (k < i + 1 → ys[k]? = some .non) := fun v H3 b3 tb3 v1 v2 => by
        have hys3 := b3 _ _ hys (by simpa using nD)
        have kD : KeepT K H3 (upd H3 D (.lst (ys ++ [v]))) := (But.upd (ms := [D]) (by simp) _).keepT fun m hm => by rw [List.mem_singleton.mp hm, hys3]; trivial
        refine ⟨ys, hys3, by rw [len]; exact small1000 (by omega), ?_, ?_, ys ++ [v], upd_same, by simp [len], fun j s hj hjk hs => ?_, fun hk => ?_⟩
        · intro c o hc hn
          have hne : c ≠ D := ne_of_none hc hD
          rw [upd_ne hne]; exact b3 _ _ (b _ _ hc hn) hn
        · obtain ⟨ps, q, r⟩ := tb3
          exact ⟨ps, by rw [upd_ne (fun z => nD z.symm)]; exact q, r⟩
        · by_cases hji : j = i
          · subst hji
            obtain ⟨a, rfl, h2⟩ := v1 hjk s hs
            exact ⟨a, by rw [← len, List.getElem?_append_right (Nat.le_refl _), Nat.sub_self]; rfl, kD _ _ h2⟩
          · obtain ⟨a', h1, h2⟩ := all j s (by omega) hjk hs
            exact ⟨a', by rw [List.getElem?_append_left (by omega)]; exact h1, kD _ _ (TabG.keep tb b3 _ _ h2)⟩
        · by_cases hki : i = k
          · rw [v2 hki, ← hki, ← len, List.getElem?_append_right (Nat.le_refl _), Nat.sub_self]; rfl
          · rw [List.getElem?_append_left (by omega)]; exact bad (by omega)
      refine ⟨rfl, _, rfl, ?_⟩
      by_cases hik : i < k
      · have ilt : i < Tr.flat.length := by have := R.le; omega
        have si : Tr.flat[i]? = some Tr.flat[i] := List.getElem?_eq_getElem ilt
        have ez := R.fore i _ hik si
        rw [hzi] at ez
        cases ez
        refine .inl ⟨Tr.flat[i], lo, rfl, R.lo1, R.lo2, (fun l hl => okT_mem Tr R.ok l (by rw [← hl]; exact List.mem_of_getElem? si)), tb, fun a H3 b3 tb3 sq3 => app (.ref a) H3 b3 tb3 (fun _ s hs => ?_) (fun h => by omega)⟩
        rw [si] at hs; cases hs
        exact ⟨a, rfl, sq3⟩
      by_cases hki : i = k
      · subst hki
        obtain ⟨z0, h1, h2⟩ := R.bad
        rw [hzi] at h1
        cases h1
        exact .inr ⟨z, rfl, h2, tb, fun H3 b3 tb3 => app .non H3 b3 tb3 (fun h => by omega) (fun _ => rfl)⟩
      rcases R.all z (List.mem_of_getElem? hzi) with ⟨st, rfl, hok⟩ | hn
      · exact .inl ⟨st, lo, rfl, R.lo1, R.lo2, hok, tb, fun a H3 b3 tb3 _ => app (.ref a) H3 b3 tb3 (fun h => by omega) (fun h => by omega)⟩
      · exact .inr ⟨z, rfl, hn, tb, fun H3 b3 tb3 => app .non H3 b3 tb3 (fun h => by omega) (fun h => by omega)⟩
    rintro H3 ⟨b3, tb3, ys, hys, ylen, yall, ybad⟩
    rw [List.length_map] at ylen yall ybad
    have kz : k < zs.length := by obtain ⟨z0, h1, _⟩ := R.bad; exact (List.getElem?_eq_some_iff.mp h1).1
    refine ⟨D, ys, rfl, .inl ⟨SqL.of hys, fun t2 ht2 => ?_⟩⟩
    have P2 := (P1.step b3 tb3).same (same_new ht2 (.tup ys))
    have B2 : BadAt K (upd H3 t2 (.tup ys)) ys Tr k := ⟨R.le, ybad kz, fun i s hi hs => by
      obtain ⟨a, h1, h2⟩ := yall i s (by omega) hi hs
      exact ⟨a, h1, (Same.keepT (same_new ht2 _)) _ _ h2⟩⟩
    have e2 : (upd H3 t2 (.tup ys)) t2 = some (.tup ys) := upd_same
    generalize upd H3 t2 (.tup ys) = H4 at P2 B2 e2 ⊢
    obtain ⟨fs, o1, z1, P3, b5⟩ := P2.set (k := "statements") (v := .ref t2) rfl
    refine ⟨_, rfl, x, _, dx, fs, rfl, o1, T.cl_Program, T.n_Program_statements, z1, ?_⟩
    have B3 : BadAt K (upd H4 x (.ins T.C_Program dx (putF "statements" (.ref t2) fs))) ys Tr k := ⟨B2.le, B2.none, fun i s hi hs => by obtain ⟨a, h1, h2⟩ := B2.told i s hi hs; exact ⟨a, h1, P2.sq (but_x b5) h2⟩⟩
    have e3 : SqT K (upd H4 x (.ins T.C_Program dx (putF "statements" (.ref t2) fs))) t2 ys := P2.sq (but_x b5) (SqT.of e2)
    generalize upd H4 x (.ins T.C_Program dx (putF "statements" (.ref t2) fs)) = H5 at P3 B3 e3 ⊢
    -- layout
    have f80 := R.flat
    refine ⟨_, rfl, x, _, dx, _, _, rfl, P3.o, T.cl_Program, T.n_Program_statements, P3.get 1 rfl rfl, t2, ys, Tr, k, rfl, e3, B3, by omega, by omega, fun d H6 s6 hd ed => ?_⟩
    have P4 := P3.same s6
    exact q d H6 P4.b P4.tb ed
end
end Kp
end
section
set_option Elab.async false
set_option linter.all false
set_option maxRecDepth 100000
set_option maxHeartbeats 4000000
namespace Kp
open PySem L2 Ka
def lc (x : Nat) : Prop := 97 ≤ x ∧ x < 123
/-- a line of any letters -/
def Ln.okA : Ln → Prop
  | .num x n => lc x ∧ n < 1000
  | .copy x y => lc x ∧ lc y
  | .pair x y z => lc x ∧ lc y ∧ lc z
  | .hd x y => lc x ∧ lc y
  | .tl x y => lc x ∧ lc y
  | .prt x => lc x
def Stm.okA : Stm → Prop
  | .pl l => Ln.okA l
  | _ => True
theorem lc_of {lo x : Nat} (h1 : 97 ≤ lo) (h2 : lo + 6 ≤ 123) (h : lo ≤ x ∧ x < lo + 6) : lc x := ⟨by omega, by omega⟩
theorem okA_of {lo : Nat} (h1 : 97 ≤ lo) (h2 : lo + 6 ≤ 123) {l : Ln} (h : l.ok lo) : Ln.okA l := by
  cases l with
  | num x n => exact ⟨lc_of h1 h2 h.1, h.2⟩
  | copy x y => exact ⟨lc_of h1 h2 h.1, lc_of h1 h2 h.2⟩
  | pair x y z => exact ⟨lc_of h1 h2 h.1, lc_of h1 h2 h.2.1, lc_of h1 h2 h.2.2⟩
  | hd x y => exact ⟨lc_of h1 h2 h.1, lc_of h1 h2 h.2⟩
  | tl x y => exact ⟨lc_of h1 h2 h.1, lc_of h1 h2 h.2⟩
  | prt x => exact lc_of h1 h2 h
theorem stmA_of {lo : Nat} (h1 : 97 ≤ lo) (h2 : lo + 6 ≤ 123) {s : Stm} (h : ∀ l, s = .pl l → l.ok lo) : Stm.okA s := by
  cases s with
  | pl l => exact okA_of h1 h2 (h l rfl)
  | _ => trivial
end Kp
end
section
set_option Elab.async false
set_option linter.all false
set_option maxRecDepth 100000
set_option maxHeartbeats 4000000
namespace Kp
open PySem L2

open Ka
section
variable {P : Program} {w : World} {K : PySem.W.Frag} {mg : Str → Option Value} {base : Heap}
def spAsgA (K : PySem.W.Frag) (PT : Addr) : Sp := fun vs H Q _ => ∃ (x : Nat) (l : Ln), vs = [.str (ch x), .str (lval l)] ∧ Ln.okA l ∧ (∀ x, l ≠ .prt x) ∧ toldV l = .str (Stm.word (.pl l)) :: .str (ch x) :: (toldV l).drop 2 ∧ GxR.TabG H PT ∧
  ∀ (a : Addr) (H' : Hp), But [PT] H H' → GxR.TabG H' PT → SqT K H' a (toldV l) → Q (.ref a) H'
theorem ok_asgA {c PT : Addr} (T : Tx K w mg) (TB : GxR.TabB base mg c PT) (hcd : T.d_is_number.code = .ref c) : FnOk P w K mg base CX0 2 T.f_assignment_of T.d_assignment_of ["name", "value"] (spAsgA K PT) := by
  have G_is_variable := ok_isv (P := P) (base := base) T
  have G_is_number := ok_isn (P := P) (base := base) T TB hcd
  refine T.assignment_of.F.ok scN_asg (fun vs H Q E h => ?_) (fun cdv A outer s H vs Q E hr h => ?_)
  · obtain ⟨x, l, rfl, _⟩ := h
    rfl
  · obtain ⟨x, l, rfl, ok, np, tv, tab, q⟩ := h
    refine ⟨_, (pss_cons (ps_if (pt_val (pe_call G_is_variable hr (by rfl) T.is_variable.g T.is_variable.F.kp T.is_variable.b .nil pass0 (pa_cons (pv 1) pa_nil))) (pss_one (ps_ret (pe_tup (pa_cons pe_str (pa_cons (pv 0) (pa_cons (pv 1) pa_nil)))))) pss_nil)
        (pss_cons (ps_if (pt_val (pe_call G_is_number hr (by rfl) T.is_number.g T.is_number.F.kp T.is_number.b .nil pass0 (pa_cons (pv 1) pa_nil))) (pss_one (ps_ret (pe_tup (pa_cons pe_str (pa_cons (pv 0) (pa_cons (pe_callTy call_int_str (by rfl) T.B.int (by decide +kernel) (pa_cons (pv 1) pa_nil)) pa_nil)))))) pss_nil)
        (pss_cons (ps_if (PW.pt (pw_and (pt_val (pe_call G_is_variable hr (by rfl) T.is_variable.g T.is_variable.F.kp T.is_variable.b .nil pass0 (pa_cons (pe_slice sl_str (pv 1) po_none (po_some pe_int)) pa_nil))) (pw_and1 (pt_cmpR op_in_seq (pe_slice sl_str (pv 1) (po_some pe_int) po_none) (pe_tup (pa_cons pe_str (pa_cons pe_str pa_nil))) (by rfl))))) (pss_one (ps_ret (pe_tup (pa_cons (pe_slice sl_str (pv 1) (po_some pe_int) po_none) (pa_cons (pv 0) (pa_cons (pe_ix ix_str (pv 1) pe_int (fun _ _ => rfl)) pa_nil)))))) pss_nil)
        (pss_cons (ps_set (i := 2) scN_asg.nd rfl (.inl rfl) (pe_slice sl_str (pv 1) (po_some pe_int) (po_some pe_int)))
        (pss_cons (ps_set (i := 3) scN_asg.nd rfl (.inl rfl) (pe_slice sl_str (pv 1) (po_some pe_int) (po_some pe_int)))
        (pss_cons (ps_if (PW.pt (pw_and (pt_val (pe_call G_is_variable hr (by rfl) T.is_variable.g T.is_variable.F.kp T.is_variable.b .nil pass0 (pa_cons (pv 2) pa_nil))) (pw_and (pt_val (pe_call G_is_variable hr (by rfl) T.is_variable.g T.is_variable.F.kp T.is_variable.b .nil pass0 (pa_cons (pv 3) pa_nil))) (pw_and1 (pt_cmpR op_eq (pv 1) (pe_joined (.cons pe_str (.cons (pe_fmt (pv 2)) (.cons pe_str (.cons (pe_fmt (pv 3)) (.cons pe_str .nil)))))) (nomark _)))))) (pss_one (ps_ret (pe_tup (pa_cons pe_str (pa_cons (pv 0) (pa_cons (pv 2) (pa_cons (pv 3) pa_nil))))))) pss_nil)
        (pss_one (ps_ret pe_non)))))))), ?_⟩
    have new : ∀ {H' : Hp} {p : Addr} {o : List V}, H' p = none → GxR.TabG H' PT → But [PT] H' (upd H' p (.tup o)) ∧ GxR.TabG (upd H' p (.tup o)) PT := fun {H' p o} hp ht => by
      obtain ⟨ps, e, r⟩ := ht
      exact ⟨But.same (same_new hp _) _, ps, same_new hp _ _ _ e, r⟩
    cases l with
    | prt y => exact absurd rfl (np y)
    | copy x0 y =>
      obtain ⟨_, hy1, hy2⟩ := ok
      obtain ⟨i, rfl⟩ := fin26 (y := y) (by omega) (by omega)
      refine ⟨_, rfl, _, rfl, by show (ch _).length ≤ 900; rw [len_ch]; decide, ?_⟩
      show ∃ d, V.bl (isV (ch (97 + i.val))) = .bl d ∧ _
      rw [f1 i]
      refine ⟨_, rfl, iteT (B := True) ?_⟩
      refine ⟨_, rfl, _, rfl, by show 3 ≤ sizeLine; decide, fun p hp => ?_⟩
      obtain ⟨b, t2⟩ := new hp tab
      refine q p _ b t2 ?_
      rw [tv]; exact SqT.of upd_same
    | num x0 n =>
      obtain ⟨_, hn⟩ := ok
      obtain ⟨g1, g2, g3⟩ := f2 ⟨n, hn⟩
      have nl := num_len n hn
      refine ⟨_, rfl, _, rfl, by show (num_ n).length ≤ 900; omega, ?_⟩
      show ∃ d, V.bl (isV (num_ n)) = .bl d ∧ _
      rw [g1]
      refine ⟨_, rfl, iteF (A := True) ?_⟩
      refine ⟨_, rfl, _, rfl, by show (num_ n).length ≤ 900; omega, tab, fun H1 b1 t1 => ?_⟩
      show ∃ d, V.bl (isN (num_ n)) = .bl d ∧ _
      rw [g2]
      refine ⟨_, rfl, iteT (B := True) ?_⟩
      refine ⟨_, rfl, _, rfl, _, _, rfl, g3, by show (num_ n).length ≤ 640; omega, by show 3 ≤ sizeLine; decide, fun p hp => ?_⟩
      obtain ⟨b, t2⟩ := new hp t1
      refine q p _ (b1.trans b) t2 ?_
      rw [tv]; exact SqT.of upd_same
    | hd x0 y =>
      obtain ⟨_, hy1, hy2⟩ := ok
      obtain ⟨i, rfl⟩ := fin26 (y := y) (by omega) (by omega)
      obtain ⟨g1, g2, g3, g4, g5, g6, g7⟩ := f3 i
      have vz : (lval (.hd x0 (97 + i.val))).length = 6 := g7
      generalize ev : lval (.hd x0 (97 + i.val)) = v at vz ⊢
      have ev' : (ch (97 + i.val) ++ ("." : Str)) ++ ("head" : Str) = v := ev
      rw [ev'] at g1 g2 g3 g4 g5 g6 g7
      refine ⟨_, rfl, _, rfl, by omega, ?_⟩
      rw [g1]
      refine ⟨_, rfl, iteF (A := True) ?_⟩
      refine ⟨_, rfl, _, rfl, by omega, tab, fun H1 b1 t1 => ?_⟩
      rw [g2]
      refine ⟨_, rfl, iteF (A := True) ?_⟩
      refine ⟨_, rfl, _, rfl, _, rfl, small30 (by omega), ?_⟩
      refine ⟨_, rfl, by rw [g3, len_ch]; decide, ?_⟩
      rw [g3, f1 i]
      refine ⟨_, rfl, iteT (B := True) ?_⟩
      refine ⟨_, rfl, _, rfl, _, rfl, small30 (by omega), ?_⟩
      rw [g4]
      refine ⟨by show 2 ≤ sizeLine; decide, fun r hr2 => ?_⟩
      obtain ⟨b2, t2⟩ := new hr2 t1
      refine ⟨r, [.str (".head" : Str), .str (".tail" : Str)], rfl, .inr (SqT.of upd_same), rfl, rfl, _, rfl, ?_⟩
      refine iteT (B := True) ?_
      refine ⟨_, rfl, _, rfl, _, rfl, small30 (by omega), ?_⟩
      rw [g5]
      refine ⟨_, rfl, _, rfl, _, 0, 97 + i.val, rfl, rfl, small30 (by omega), atI_nat (j := 0) g6, by show 3 ≤ sizeLine; decide, fun p hp => ?_⟩
      obtain ⟨b3, t3⟩ := new hp t2
      refine q p _ ((b1.trans b2).trans b3) t3 ?_
      rw [tv]; exact SqT.of upd_same
    | tl x0 y =>
      obtain ⟨_, hy1, hy2⟩ := ok
      obtain ⟨i, rfl⟩ := fin26 (y := y) (by omega) (by omega)
      obtain ⟨g1, g2, g3, g4, g5, g6, g7⟩ := f4 i
      have vz : (lval (.tl x0 (97 + i.val))).length = 6 := g7
      generalize ev : lval (.tl x0 (97 + i.val)) = v at vz ⊢
      have ev' : (ch (97 + i.val) ++ ("." : Str)) ++ ("tail" : Str) = v := ev
      rw [ev'] at g1 g2 g3 g4 g5 g6 g7
      refine ⟨_, rfl, _, rfl, by omega, ?_⟩
      rw [g1]
      refine ⟨_, rfl, iteF (A := True) ?_⟩
      refine ⟨_, rfl, _, rfl, by omega, tab, fun H1 b1 t1 => ?_⟩
      rw [g2]
      refine ⟨_, rfl, iteF (A := True) ?_⟩
      refine ⟨_, rfl, _, rfl, _, rfl, small30 (by omega), ?_⟩
      refine ⟨_, rfl, by rw [g3, len_ch]; decide, ?_⟩
      rw [g3, f1 i]
      refine ⟨_, rfl, iteT (B := True) ?_⟩
      refine ⟨_, rfl, _, rfl, _, rfl, small30 (by omega), ?_⟩
      rw [g4]
      refine ⟨by show 2 ≤ sizeLine; decide, fun r hr2 => ?_⟩
      obtain ⟨b2, t2⟩ := new hr2 t1
      refine ⟨r, [.str (".head" : Str), .str (".tail" : Str)], rfl, .inr (SqT.of upd_same), rfl, rfl, _, rfl, ?_⟩
      refine iteT (B := True) ?_
      refine ⟨_, rfl, _, rfl, _, rfl, small30 (by omega), ?_⟩
      rw [g5]
      refine ⟨_, rfl, _, rfl, _, 0, 97 + i.val, rfl, rfl, small30 (by omega), atI_nat (j := 0) g6, by show 3 ≤ sizeLine; decide, fun p hp => ?_⟩
      obtain ⟨b3, t3⟩ := new hp t2
      refine q p _ ((b1.trans b2).trans b3) t3 ?_
      rw [tv]; exact SqT.of upd_same
    | pair x0 y z =>
      obtain ⟨_, ⟨hy1, hy2⟩, hz1, hz2⟩ := ok
      obtain ⟨i, rfl⟩ := fin26 (y := y) (by omega) (by omega)
      obtain ⟨j, rfl⟩ := fin26 (y := z) (by omega) (by omega)
      obtain ⟨g1, g2, g3, g4, g5, g6, g7, g8⟩ := f5 i j
      have vz : (lval (.pair x0 (97 + i.val) (97 + j.val))).length = 6 := g7
      generalize ev : lval (.pair x0 (97 + i.val) (97 + j.val)) = v at vz ⊢
      have ev' : ((("[" : Str) ++ ch (97 + i.val)) ++ (", " : Str)) ++ ch (97 + j.val) ++ ("]" : Str) = v := ev
      rw [ev'] at g1 g2 g3 g4 g5 g6 g7 g8
      refine ⟨_, rfl, _, rfl, by omega, ?_⟩
      rw [g1]
      refine ⟨_, rfl, iteF (A := True) ?_⟩
      refine ⟨_, rfl, _, rfl, by omega, tab, fun H1 b1 t1 => ?_⟩
      rw [g2]
      refine ⟨_, rfl, iteF (A := True) ?_⟩
      refine ⟨_, rfl, _, rfl, _, rfl, small30 (by omega), ?_⟩
      refine ⟨_, rfl, by rw [g4]; decide, ?_⟩
      rw [g3]
      refine ⟨_, rfl, iteF (A := True) ?_⟩
      refine ⟨_, rfl, _, rfl, _, rfl, _, rfl, small30 (by omega), ?_⟩
      rw [g5]
      refine ⟨_, rfl, _, rfl, _, rfl, _, rfl, small30 (by omega), ?_⟩
      rw [g6]
      refine ⟨_, rfl, _, rfl, by rw [len_ch]; decide, ?_⟩
      rw [f1 i]
      refine ⟨_, rfl, iteT (B := True) ?_⟩
      refine ⟨_, rfl, _, rfl, by rw [len_ch]; decide, ?_⟩
      rw [f1 j]
      refine ⟨_, rfl, iteT (B := True) ?_⟩
      have le : ∀ {n : Nat}, n ≤ 20 → n ≤ sizeLine := fun h => small30 (by omega)
      have z0 : Str.empty.length = 0 := rfl
      have z1 : ("[" : Str).length = 1 := by decide +kernel
      have z2 : (", " : Str).length = 2 := by decide +kernel
      have z3 : ("]" : Str).length = 1 := by decide +kernel
      refine ⟨_, rfl, _, rfl, le (by simp only [len_app, len_ch, z0, z1]; decide), _, rfl, .inl ⟨_, rfl, le (by simp only [len_ch]; decide), _, rfl, le (by simp only [len_app, len_ch, z0, z1]; decide), _, rfl, le (by simp only [len_app, len_ch, z0, z1, z2]; decide), _, rfl, .inl ⟨_, rfl, le (by simp only [len_ch]; decide), _, rfl, le (by simp only [len_app, len_ch, z0, z1, z2]; decide), _, rfl, le (by simp only [len_app, len_ch, z0, z1, z2, z3]; decide), ?_⟩⟩⟩
      rw [g8]
      refine ⟨rfl, _, rfl, ?_⟩
      rw [decide_eq_true (show V.str v = V.str v from rfl)]
      refine iteT (B := True) ?_
      refine ⟨_, rfl, _, rfl, _, rfl, by show 4 ≤ sizeLine; decide, fun p hp => ?_⟩
      obtain ⟨b, t2⟩ := new hp t1
      refine q p _ (b1.trans b) t2 ?_
      rw [tv]; exact SqT.of upd_same
end
end Kp
end
section
set_option Elab.async false
set_option linter.all false
set_option maxRecDepth 100000
set_option maxHeartbeats 4000000
namespace Kp
open PySem L2

open Ka
theorem txt_okA (s : Stm) (hs : Stm.okA s) : 10 ∉ s.txt.cps.toList ∧ s.txt.length ≤ 20 ∧ ∃ c r, s.txt.cps.toList = c :: r ∧ c ≠ 32 := by
  have s1 : (" = " : Str).cps.toList = [32, 61, 32] := by decide +kernel
  have s2 : (" = [" : Str).cps.toList = [32, 61, 32, 91] := by decide +kernel
  have s3 : ("print " : Str).cps.toList = [112, 114, 105, 110, 116, 32] := by decide +kernel
  have s4 : (", " : Str).cps.toList = [44, 32] := by decide +kernel
  have s5 : ("]" : Str).cps.toList = [93] := by decide +kernel
  have s6 : ("." : Str).cps.toList = [46] := by decide +kernel
  have s7 : ("head" : Str).cps.toList = [104, 101, 97, 100] := by decide +kernel
  have s8 : ("tail" : Str).cps.toList = [116, 97, 105, 108] := by decide +kernel
  have ll : ∀ z : Str, z.length = z.cps.toList.length := fun z => by simp [Str.length]
  cases s with
  | pl l =>
    have ok : Ln.okA l := hs
    cases l with
    | num x n =>
      obtain ⟨⟨hx1, hx2⟩, hn⟩ := ok
      have n1 := num_10 n hn
      have n2 := num_len n hn
      rw [ll] at n2
      have e : (Stm.txt (.pl (.num x n))).cps.toList = x :: 32 :: 61 :: 32 :: (num_ n).cps.toList := by
        show ((ch x ++ (" = " : Str)) ++ num_ n).cps.toList = _
        rw [cps_app, cps_app, cps_ch, s1]; rfl
      refine ⟨?_, ?_, x, _, e, by omega⟩
      · rw [e]; simp only [List.mem_cons, not_or]; exact ⟨by omega, by omega, by omega, by omega, n1⟩
      · rw [ll, e]; simp only [List.length_cons]; omega
    | copy x y =>
      obtain ⟨⟨hx1, hx2⟩, hy1, hy2⟩ := ok
      have e : (Stm.txt (.pl (.copy x y))).cps.toList = [x, 32, 61, 32, y] := by
        show ((ch x ++ (" = " : Str)) ++ ch y).cps.toList = _
        rw [cps_app, cps_app, cps_ch, s1, cps_ch]; rfl
      refine ⟨?_, ?_, x, _, e, by omega⟩
      · rw [e]; simp only [List.mem_cons, not_or, List.not_mem_nil, not_false_eq_true, and_true]; omega
      · rw [ll, e]; simp
    | pair x y z =>
      obtain ⟨⟨hx1, hx2⟩, ⟨hy1, hy2⟩, hz1, hz2⟩ := ok
      have e : (Stm.txt (.pl (.pair x y z))).cps.toList = [x, 32, 61, 32, 91, y, 44, 32, z, 93] := by
        show (((((ch x ++ (" = [" : Str)) ++ ch y) ++ (", " : Str)) ++ ch z) ++ ("]" : Str)).cps.toList = _
        rw [cps_app, cps_app, cps_app, cps_app, cps_app, cps_ch, cps_ch, cps_ch, s2, s4, s5]; rfl
      refine ⟨?_, ?_, x, _, e, by omega⟩
      · rw [e]; simp only [List.mem_cons, not_or, List.not_mem_nil, not_false_eq_true, and_true]; omega
      · rw [ll, e]; simp
    | hd x y =>
      obtain ⟨⟨hx1, hx2⟩, hy1, hy2⟩ := ok
      have e : (Stm.txt (.pl (.hd x y))).cps.toList = [x, 32, 61, 32, y, 46, 104, 101, 97, 100] := by
        show ((((ch x ++ (" = " : Str)) ++ ch y) ++ ("." : Str)) ++ ("head" : Str)).cps.toList = _
        rw [cps_app, cps_app, cps_app, cps_app, cps_ch, cps_ch, s1, s6, s7]; rfl
      refine ⟨?_, ?_, x, _, e, by omega⟩
      · rw [e]; simp only [List.mem_cons, not_or, List.not_mem_nil, not_false_eq_true, and_true]; omega
      · rw [ll, e]; simp
    | tl x y =>
      obtain ⟨⟨hx1, hx2⟩, hy1, hy2⟩ := ok
      have e : (Stm.txt (.pl (.tl x y))).cps.toList = [x, 32, 61, 32, y, 46, 116, 97, 105, 108] := by
        show ((((ch x ++ (" = " : Str)) ++ ch y) ++ ("." : Str)) ++ ("tail" : Str)).cps.toList = _
        rw [cps_app, cps_app, cps_app, cps_app, cps_ch, cps_ch, s1, s6, s8]; rfl
      refine ⟨?_, ?_, x, _, e, by omega⟩
      · rw [e]; simp only [List.mem_cons, not_or, List.not_mem_nil, not_false_eq_true, and_true]; omega
      · rw [ll, e]; simp
    | prt x =>
      have e : (Stm.txt (.pl (.prt x))).cps.toList = [112, 114, 105, 110, 116, 32, x] := by
        show (("print " : Str) ++ ch x).cps.toList = _
        rw [cps_app, cps_ch, s3]; rfl
      have ok : 97 ≤ x ∧ x < 123 := ok
      refine ⟨?_, ?_, 112, _, e, by omega⟩
      · rw [e]; simp only [List.mem_cons, not_or, List.not_mem_nil, not_false_eq_true, and_true]; omega
      · rw [ll, e]; simp
  | block => exact ⟨by decide +kernel, by decide +kernel, 123, [], by decide +kernel, by decide⟩
  | iff => exact ⟨by decide +kernel, by decide +kernel, 105, [102, 32, 63, 32, 123], by decide +kernel, by decide⟩
  | els => exact ⟨by decide +kernel, by decide +kernel, 125, [32, 101, 108, 115, 101, 32, 123], by decide +kernel, by decide⟩
  | whl => exact ⟨by decide +kernel, by decide +kernel, 119, [104, 105, 108, 101, 32, 63, 32, 123], by decide +kernel, by decide⟩
  | fin => exact ⟨by decide +kernel, by decide +kernel, 125, [], by decide +kernel, by decide⟩
section
variable {P : Program} {w : World} {K : PySem.W.Frag} {mg : Str → Option Value} {base : Heap}
def spStmA (K : PySem.W.Frag) (PT : Addr) : Sp := fun vs H Q _ => ∃ (s : Stm), vs = [.str s.txt] ∧ Stm.okA s ∧ GxR.TabG H PT ∧ ∀ (a : Addr) (H' : Hp), But [PT] H H' → GxR.TabG H' PT → SqT K H' a s.vals → Q (.ref a) H'
theorem ok_stmA {c PT : Addr} (T : Tx K w mg) (no : ∀ z : Str, z ∉ (["{", "if ? {", "} else {", "while ? {", "}"] : List Str) → PySem.W.nsIn K T.a_SCOPE_LINES z = some none) (TB : GxR.TabB base mg c PT) (hcd : T.d_is_number.code = .ref c) : FnOk P w K mg base CX0 3 T.f_statement_of T.d_statement_of ["line"] (spStmA K PT) := by
  have G_is_variable := ok_isv (P := P) (base := base) T
  have G_assignment_of := ok_asgA (P := P) (base := base) T TB hcd
  refine T.statement_of.F.ok scN_stm (fun vs H Q E h => ?_) (fun cdv A outer s H vs Q E hr h => ?_)
  · obtain ⟨s, rfl, _⟩ := h
    rfl
  · obtain ⟨st, rfl, hok, tab, q⟩ := h
    have hr1 := hr.mono (by decide : 1 ≤ 2)
    refine ⟨_, (pss_cons (ps_if (pt_cmpR (op_in_kd T.t_SCOPE_LINES) (pv 0) (pe_glob (v := .ref T.a_SCOPE_LINES) rfl T.k_SCOPE_LINES rfl) (by rfl)) (pss_one (ps_ret (pe_kget T.t_SCOPE_LINES (pe_glob (v := .ref T.a_SCOPE_LINES) rfl T.k_SCOPE_LINES rfl) (pv 0) (fun _ _ => rfl)))) pss_nil)
        (pss_cons (ps_if (PW.pt (pw_and (pt_val (pe_m1 PySem.F.slot_str_startswith PySem.F.type_str_startswith mt_startswith (pv 0) pe_str)) (pw_and1 (pt_val (pe_call G_is_variable hr1 (by rfl) T.is_variable.g T.is_variable.F.kp T.is_variable.b .nil pass0 (pa_cons (pe_slice sl_str (pv 0) (po_some pe_int) po_none) pa_nil)))))) (pss_one (ps_ret (pe_tup (pa_cons pe_str (pa_cons (pe_slice sl_str (pv 0) (po_some pe_int) po_none) pa_nil))))) pss_nil)
        (pss_cons (ps_if (PW.pt (pw_and (pt_val (pe_call G_is_variable hr1 (by rfl) T.is_variable.g T.is_variable.F.kp T.is_variable.b .nil pass0 (pa_cons (pe_slice sl_str (pv 0) po_none (po_some pe_int)) pa_nil))) (pw_and1 (pt_cmpR op_eq (pe_slice sl_str (pv 0) (po_some pe_int) (po_some pe_int)) pe_str (nomark _))))) (pss_one (ps_ret (pe_call G_assignment_of hr (by rfl) T.assignment_of.g T.assignment_of.F.kp T.assignment_of.b .nil pass0 (pa_cons (pe_ix ix_str (pv 0) pe_int (fun _ _ => rfl)) (pa_cons (pe_slice sl_str (pv 0) (po_some pe_int) po_none) pa_nil))))) pss_nil)
        (pss_one (ps_ret pe_non))))), ?_⟩
    cases st with
    | block =>
      obtain ⟨b, e1, e2⟩ := T.v0_SCOPE_LINES
      exact ⟨_, rfl, _, _, rfl, rfl, e1, _, rfl, iteT (B := True) ⟨_, rfl, _, _, .ref b, rfl, rfl, e1, rfl, q b H (But.refl _ _) tab (e2 H)⟩⟩
    | iff =>
      obtain ⟨b, e1, e2⟩ := T.v1_SCOPE_LINES
      exact ⟨_, rfl, _, _, rfl, rfl, e1, _, rfl, iteT (B := True) ⟨_, rfl, _, _, .ref b, rfl, rfl, e1, rfl, q b H (But.refl _ _) tab (e2 H)⟩⟩
    | els =>
      obtain ⟨b, e1, e2⟩ := T.v2_SCOPE_LINES
      exact ⟨_, rfl, _, _, rfl, rfl, e1, _, rfl, iteT (B := True) ⟨_, rfl, _, _, .ref b, rfl, rfl, e1, rfl, q b H (But.refl _ _) tab (e2 H)⟩⟩
    | whl =>
      obtain ⟨b, e1, e2⟩ := T.v3_SCOPE_LINES
      exact ⟨_, rfl, _, _, rfl, rfl, e1, _, rfl, iteT (B := True) ⟨_, rfl, _, _, .ref b, rfl, rfl, e1, rfl, q b H (But.refl _ _) tab (e2 H)⟩⟩
    | fin =>
      obtain ⟨b, e1, e2⟩ := T.v4_SCOPE_LINES
      exact ⟨_, rfl, _, _, rfl, rfl, e1, _, rfl, iteT (B := True) ⟨_, rfl, _, _, .ref b, rfl, rfl, e1, rfl, q b H (But.refl _ _) tab (e2 H)⟩⟩
    | pl l =>
      have ok : Ln.okA l := hok
      have key : (∃ x, l = .prt x ∧ 97 ≤ x ∧ x < 123) ∨ ∃ x, 97 ≤ x ∧ x < 123 ∧ l.txt.cps.toList = x :: 32 :: 61 :: 32 :: (lval l).cps.toList ∧ (∀ x, l ≠ .prt x) ∧ toldV l = .str (Stm.word (.pl l)) :: .str (ch x) :: (toldV l).drop 2 := by
        cases l with
        | prt x => have ok : lc x := ok; exact .inl ⟨x, rfl, ok.1, ok.2⟩
        | num x n => have ok := ok.1; exact .inr ⟨x, ok.1, ok.2, asg_list _ x (.inl ⟨n, rfl⟩), (by intro x h; cases h), rfl⟩
        | copy x y => have ok := ok.1; exact .inr ⟨x, ok.1, ok.2, asg_list _ x (.inr (.inl ⟨y, rfl⟩)), (by intro x h; cases h), rfl⟩
        | pair x y z => have ok := ok.1; exact .inr ⟨x, ok.1, ok.2, asg_list _ x (.inr (.inr (.inl ⟨y, z, rfl⟩))), (by intro x h; cases h), rfl⟩
        | hd x y => have ok := ok.1; exact .inr ⟨x, ok.1, ok.2, asg_list _ x (.inr (.inr (.inr (.inl ⟨y, rfl⟩)))), (by intro x h; cases h), rfl⟩
        | tl x y => have ok := ok.1; exact .inr ⟨x, ok.1, ok.2, asg_list _ x (.inr (.inr (.inr (.inr ⟨y, rfl⟩)))), (by intro x h; cases h), rfl⟩
      have tl : (Stm.txt (.pl l)).length ≤ 20 := (txt_okA (.pl l) ok).2.1
      rcases key with ⟨x, rfl, hx1, hx2⟩ | ⟨x, hx1, hx2, hl, np, tv⟩
      · obtain ⟨i, rfl⟩ := fin26 hx1 hx2
        obtain ⟨g1, g2, g3, g4⟩ := prt_facts i
        have g1 : Txt.startswith (Stm.txt (.pl (.prt (97 + i.val)))) ("print " : Str) = true := g1
        have g2 : cutS (Stm.txt (.pl (.prt (97 + i.val)))) (some 6) none = ch (97 + i.val) := g2
        refine ⟨_, rfl, _, _, rfl, rfl, no _ g4, _, rfl, iteF (A := True) ?_⟩
        refine ⟨_, rfl, ⟨_, rfl⟩, _, _, rfl, rfl, _, rfl, ?_⟩
        rw [g1]
        refine iteT (B := True) ?_
        refine ⟨_, rfl, _, rfl, _, rfl, small30 (by omega), ?_⟩
        rw [g2]
        refine ⟨_, rfl, by rw [len_ch]; decide, ?_⟩
        rw [f1 i]
        refine ⟨_, rfl, iteT (B := True) ?_⟩
        refine ⟨_, rfl, _, rfl, _, rfl, small30 (by omega), ?_⟩
        rw [g2]
        refine ⟨by show 2 ≤ sizeLine; decide, fun p hp => ?_⟩
        obtain ⟨ps, e, r⟩ := tab
        exact q p _ (But.same (same_new hp _) _) ⟨ps, same_new hp _ _ _ e, r⟩ (SqT.of upd_same)
      · have hl' : (Stm.txt (.pl l)).cps.toList = x :: 32 :: 61 :: 32 :: (lval l).cps.toList := hl
        have nk : (Stm.txt (.pl l)) ∉ (["{", "if ? {", "} else {", "while ? {", "}"] : List Str) := fun m => by
          have : ∀ z ∈ (["{", "if ? {", "} else {", "while ? {", "}"] : List Str), ¬ (z.cps.toList[1]? = some 32 ∧ z.cps.toList[2]? = some 61) := by decide +kernel
          exact this _ m (by rw [hl']; exact ⟨rfl, rfl⟩)
        obtain ⟨c1, c2, c3⟩ := asg_cuts hl'
        have sw : Txt.startswith (Stm.txt (.pl l)) ("print " : Str) = false := sw_false (by rw [hl']; rfl)
        obtain ⟨i, rfl⟩ := fin26 hx1 hx2
        refine ⟨_, rfl, _, _, rfl, rfl, no _ nk, _, rfl, iteF (A := True) ?_⟩
        refine ⟨_, rfl, ⟨_, rfl⟩, _, _, rfl, rfl, _, rfl, ?_⟩
        rw [sw]
        refine iteF (A := True) ?_
        refine ⟨_, rfl, _, rfl, _, rfl, small30 (by omega), ?_⟩
        rw [c1]
        refine ⟨_, rfl, by rw [len_ch]; decide, ?_⟩
        rw [f1 i]
        refine ⟨_, rfl, iteT (B := True) ?_⟩
        refine ⟨_, rfl, _, rfl, _, rfl, _, rfl, small30 (by omega), ?_⟩
        rw [c2]
        refine ⟨rfl, _, rfl, iteT (B := True) ?_⟩
        refine ⟨_, rfl, _, 0, 97 + i.val, rfl, rfl, small30 (by omega), by rw [hl']; exact atI_nat (j := 0) rfl, _, rfl, _, rfl, _, rfl, small30 (by omega), ?_⟩
        rw [c3]
        exact ⟨97 + i.val, l, rfl, ok, np, tv, tab, q⟩
end
end Kp
end
section
set_option Elab.async false
set_option linter.all false
set_option maxRecDepth 100000
set_option maxHeartbeats 4000000
namespace Kp
open PySem PySem.Spec PyProof.Rows L2
def keyT (e : Int × Value) : Str := match e.2 with
  | .str k _ => k
  | _ => Str.empty
/-- an entry of a text of L -/
def InT (w : World) (L : List Str) (e : Int × Value) : Prop := ∃ k tk, e.2 = Value.str k tk ∧ e.1 = hashStr w k ∧ k ∈ L
/-- a set of the texts of L -/
def SetT (w : World) (L : List Str) (h : Heap) (a : Addr) : Prop :=
  ∃ o es ep t, h.get? a = some o ∧ o.ExactSet ∧ o.data = .set es ep t ∧ (∀ e ∈ es.toList, InT w L e) ∧ (es.toList.map keyT).Nodup ∧ es.size ≤ L.length ∧ t.fits es.size = true ∧ Ris t.place.toList ∧ (w.params.followText "set-order" = true ∨ t.led = true) ∧ ∀ k ∈ L, k ∈ es.toList.map keyT
theorem nodup_le : ∀ {l m : List Str}, l.Nodup → (∀ x ∈ l, x ∈ m) → l.length ≤ m.length
  | [], _, _, _ => Nat.zero_le _
  | x :: l, m, nd, h => by
    obtain ⟨a, b⟩ := List.nodup_cons.mp nd
    have hx := h x (List.mem_cons_self ..)
    have ih := nodup_le (m := m.erase x) b fun y hy => (List.mem_erase_of_ne (fun e => a (by rw [← e]; exact hy))).mpr (h y (List.mem_cons_of_mem _ hy))
    rw [List.length_erase_of_mem hx] at ih
    have := List.length_pos_of_mem hx
    rw [List.length_cons]; omega
section
variable {P : Program} {w : World} {A : Around} {E : Value → Shared → Prop} {s : Shared} {a : Addr} {L : List Str}
theorem SetT.at {h h' : Heap} (R : SetT w L h a) (k : ∀ o, h.get? a = some o → h'.get? a = some o) : SetT w L h' a := by
  obtain ⟨o, es, ep, t, ho, r⟩ := R
  exact ⟨o, es, ep, t, k o ho, r⟩
theorem inT_elems {l : List (Int × Value)} (g : ∀ e ∈ l, InT w L e) : ElemsOf (strKind P w) l := fun e he => by
  obtain ⟨k, tk, e1, e2, _⟩ := g e he
  exact ⟨⟨k, by rw [e1]; exact strKind_is P w k tk, e2⟩, by rw [e1]; rfl⟩
theorem inT_is {e : Int × Value} (g : InT w L e) {k : Str} (h : (strKind P w).is k e.2 = true) : keyT e = k := by
  obtain ⟨k0, tk, e1, _⟩ := g
  obtain ⟨u, e2⟩ := Value.isStrOf_shape h
  unfold keyT
  rw [e2]
theorem is_inT {e : Int × Value} (g : InT w L e) : (strKind P w).is (keyT e) e.2 = true := by
  obtain ⟨k0, tk, e1, _⟩ := g
  unfold keyT
  rw [e1]
  exact strKind_is P w k0 tk
/-- stored, and laid anew where it has grown -/
theorem setT_tail {g : Bool → Sem Unit} (hg : ∀ (b : Bool) (s1 : Shared) (Q' : Unit → Shared → Prop), Q' () s1 → wpAny (model P w) A (g b) Q' E s1)
    {o : Obj} {es : Array (Int × Value)} {ep : Nat} {t : SetTable} (ho : s.heap.get? a = some o) (ex : o.ExactSet) (hd : o.data = .set es ep t) {es1 : Array (Int × Value)} {t2 : SetTable}
    (g1 : ∀ e ∈ es1.toList, InT w L e) (nd1 : (es1.toList.map keyT).Nodup) (sz : es1.size ≤ L.length) (bound : L.length < scanBound) (ft : t2.fits es1.size = true) (rs : Ris t2.place.toList) (ld : w.params.followText "set-order" = true ∨ t2.led = true) (al : ∀ k ∈ L, k ∈ es1.toList.map keyT) {dummy : Bool} {R : Option Bool → Shared → Prop}
    (hR : ∀ h', Heap.SameBut a s.heap h' → SetT w L h' a → R (some true) { s with heap := h' }) :
    wpAny (model P w) A (do
        storeSet a es1 t2
        if (!dummy && t2.tooFull) = true then do
            g (relayAll t2 es1 (SetTable.grown es1.size)).2.2
            storeSet a (relayAll t2 es1 (SetTable.grown es1.size)).1 (relayAll t2 es1 (SetTable.grown es1.size)).2.1
            pure (some true)
          else pure (some true)) R E s := by
  refine wpAny_bind (wpAny_storeSet_of ho hd ?_ (fits_of_scanBound (Nat.lt_of_le_of_lt sz bound)))
  have o1 := store_at (es' := es1) (t' := t2) ho hd
  have b1 := Heap.SameBut.update s.heap a (Obj.putSet es1 t2)
  split
  · have pm := relayAll_perm t2 es1 (SetTable.grown es1.size)
    have f3 := relayAll_fits t2 es1 (SetTable.grown es1.size)
    have r3 := relayAll_ris t2 es1 (SetTable.grown es1.size)
    have l3 := relayAll_led t2 es1 (SetTable.grown es1.size)
    generalize relayAll t2 es1 (SetTable.grown es1.size) = Z at pm f3 r3 l3 ⊢
    obtain ⟨es2, t3, gave⟩ := Z
    dsimp only at pm f3 r3 l3 ⊢
    have z2 : es2.size = es1.size := by rw [← Array.length_toList, pm.length_eq, Array.length_toList]
    refine wpAny_bind (hg _ _ _ (wpAny_bind (wpAny_storeSet_of o1 rfl ?_ (fits_of_scanBound (by rw [z2]; exact Nat.lt_of_le_of_lt sz bound)))))
    have o2 := store_at (es' := es2) (t' := t3) o1 rfl
    exact wpAny_pure (hR _ (b1.trans (Heap.SameBut.update _ a _)) ⟨_, es2, _, t3, o2, ex, rfl, fun e he => g1 e (pm.mem_iff.mp he), (pm.map keyT).nodup_iff.mpr nd1, by rw [z2]; exact sz, f3, r3, (ld.imp id fun z => by rw [l3]; exact z), fun k hk => (pm.map keyT).mem_iff.mpr (al k hk)⟩)
  · exact wpAny_pure (hR _ b1 ⟨_, es1, _, t2, o1, ex, rfl, g1, nd1, sz, ft, rs, ld, al⟩)
theorem setT_hashed {k : Str} {tk : Tok} {Q : Bool → Shared → Prop} (R : SetT w L s.heap a) (bound : L.length + 1 < scanBound)
    (hQ : ∀ b h', Heap.SameBut a s.heap h' → SetT w (insT L k) h' a → Q b { s with heap := h' }) : wpAny (model P w) A (setAddHashed a (.str k tk) ((strKind P w).hash k)) Q E s := by
  obtain ⟨o, es, ep, t, ho, ex, hd, g, nd, sz, ft, rs, ld, al⟩ := R
  have isk : (strKind P w).is k (.str k tk) = true := strKind_is P w k tk
  have scan : (Value.str k tk).scannable = true := rfl
  have el : ElemsOf (strKind P w) es.toList := inT_elems g
  unfold setAddHashed setAddHashedIn
  refine wpAny_holding (wpAny_bind (wpAny_setState_of ho hd ft ?_))
  dsimp only
  rw [byScan_of scan (Nat.lt_of_le_of_lt sz (Nat.lt_of_succ_lt bound)) el]
  simp only [↓reduceIte]
  unfold setAddByScan
  refine wpAny_bind (wpAny_bind (wpAny_rule (wpAny_bind (wpAny_setScan_of isk ho hd ft el ?_))))
  cases found : List.findIdx? (fun e => (strKind P w).is k e.2) es.toList with
  | some j =>
    dsimp only
    have kin : k ∈ L := by
      obtain ⟨hj, hp, _⟩ := List.findIdx?_eq_some_iff_getElem.mp found
      have m := List.getElem_mem hj
      obtain ⟨k0, t0, e1, _, m0⟩ := g _ m
      have := inT_is (P := P) (g _ m) hp
      unfold keyT at this
      rw [e1] at this
      exact this ▸ m0
    have eL : insT L k = L := if_pos kin
    exact wpAny_pure (wpAny_pure (hQ _ s.heap (Heap.SameBut.refl a s.heap) (by rw [eL]; exact ⟨o, es, ep, t, ho, ex, hd, g, nd, sz, ft, rs, ld, al⟩)))
  | none =>
    dsimp only
    have fresh : k ∉ es.toList.map keyT := fun z => by
      obtain ⟨e, he, q⟩ := List.mem_map.mp z
      have c := List.findIdx?_eq_none_iff.mp found e he
      have y := is_inT (P := P) (g e he)
      rw [q] at y
      rw [y] at c
      cases c
    have nL : k ∉ L := fun z => fresh (al k z)
    have eL : insT L k = L ++ [k] := if_neg nL
    rw [eL] at hQ
    have gave : ∀ (b : Bool) {s1 : Shared} {Q' : Unit → Shared → Prop}, Q' () s1 → wpAny (model P w) A (match b with | true => rule "set.scan.the-table-gave-way" | false => pure ()) Q' E s1 := fun b s1 Q' q => by
      cases b
      · exact wpAny_pure q
      · exact wpAny_rule q
    have pm := layNew_perm t es ((strKind P w).hash k) (.str k tk)
    have f1 := layNew_fits t es ((strKind P w).hash k) (.str k tk)
    have r1 := layNew_ris t es ((strKind P w).hash k) (.str k tk) rs
    have l1 := layNew_led t es ((strKind P w).hash k) (.str k tk)
    generalize layNew t es ((strKind P w).hash k) (.str k tk) = Z at pm f1 r1 l1 ⊢
    obtain ⟨es1, t1, dummy, gv⟩ := Z
    dsimp only at pm f1 r1 l1 ⊢
    rw [Array.toList_push] at pm
    have pc : es1.toList.Perm (((strKind P w).hash k, Value.str k tk) :: es.toList) := pm.trans (List.perm_append_singleton _ _)
    have pk : (es1.toList.map keyT).Perm (k :: es.toList.map keyT) := pc.map keyT
    have g1 : ∀ e ∈ es1.toList, InT w (L ++ [k]) e := fun e he => by
      rcases List.mem_cons.mp (pc.mem_iff.mp he) with z | z
      · rw [z]; exact ⟨k, tk, rfl, rfl, by simp⟩
      · obtain ⟨k0, t0, a1, a2, a3⟩ := g e z
        exact ⟨k0, t0, a1, a2, List.mem_append_left _ a3⟩
    have nd1 : (es1.toList.map keyT).Nodup := pk.nodup_iff.mpr (List.nodup_cons.mpr ⟨fresh, nd⟩)
    have sz1 : es1.size ≤ (L ++ [k]).length := by
      have := nodup_le nd1 (m := L ++ [k]) fun x hx => by
        obtain ⟨e, he, q⟩ := List.mem_map.mp hx
        obtain ⟨k0, t0, e1, _, m⟩ := g1 e he
        rw [← q]; unfold keyT; rw [e1]; exact m
      rwa [List.length_map, Array.length_toList] at this
    have ld1 : w.params.followText "set-order" = true ∨ t1.led = true := ld.imp id fun z => by rw [l1]; exact z
    have al1 : ∀ y ∈ L ++ [k], y ∈ es1.toList.map keyT := fun y hy => by
      rw [pk.mem_iff]
      rcases List.mem_append.mp hy with hy | hy
      · exact List.mem_cons_of_mem _ (al y hy)
      · rw [List.mem_singleton.mp hy]; exact List.mem_cons_self ..
    have bound : (L ++ [k]).length < scanBound := by rw [List.length_append]; exact bound
    refine wpAny_bind (gave _ ?_)
    split
    · refine wpAny_bind ?_
      rw [hashByValue_scannable 8 scan]
      refine wpAny_pure (setT_tail ?_ ho ex hd g1 nd1 sz1 bound ?_ ?_ ?_ al1 ?_)
      · intro b s1 Q' q
        cases b
        · exact wpAny_pure q
        · exact wpAny_rule q
      · first | (split <;> first | exact f1 | exact SetTable.fits_plain_off f1) | exact f1
      · first | (split <;> exact r1) | exact r1
      · first | (split <;> exact ld1) | exact ld1
      · intro h' sb r; dsimp only; exact wpAny_pure (hQ _ h' sb r)
    · refine wpAny_bind (wpAny_pure ?_)
      simp only [↓reduceIte]
      refine setT_tail ?_ ho ex hd g1 nd1 sz1 bound f1 r1 ld1 al1 ?_
      · intro b s1 Q' q
        cases b
        · exact wpAny_pure q
        · exact wpAny_rule q
      · intro h' sb r; dsimp only; exact wpAny_pure (hQ _ h' sb r)
/-- set.add of a text of L -/
theorem setT_add {k : Str} {tk : Tok} {Q : Value → Shared → Prop} (R : SetT w L s.heap a) (bound : L.length + 1 < scanBound)
    (hQ : ∀ h', Heap.SameBut a s.heap h' → SetT w (insT L k) h' a → Q .none { s with heap := h', toks := s.toks + 1 }) : wpAny (model P w) A (call (.builtin "set.add") [.ref a, .str k tk]) Q E s := by
  have isS : s.TypeIs (.ref a) "set" := by obtain ⟨o, es, ep, t, ho, ex, _⟩ := R; exact ⟨o, ho, ex.1⟩
  refine wpAny_call_entry F.slot_set_add isS F.entry_set_add ?_ (F.args_set_add_2 _ _)
  unfold Builtin.«set.add» Builtin.Frozenset.oneOther
  simp only [List.isEmpty_nil, bind_assoc]
  unfold Builtin.Frozenset.addrOf setAdd
  refine wpAny_bind (wpAny_pure ?_)
  try dsimp only
  refine wpAny_bind (wpAny_pure ?_)
  try dsimp only
  refine wpAny_bind (wpAny_holding (wpAny_bind ((strKind P w).pyHash (strKind_is P w k tk) ?_)))
  refine setT_hashed (s := { s with toks := s.toks + 1 }) R bound fun b h' sb r => ?_
  show wpAny _ _ (ret Value.none) _ _ _
  exact wpAny_pure ⟨_, rfl, hQ h' sb r⟩
/-- sorted(the set) -/
theorem sorted_T {Q : Value → Shared → Prop} (R : SetT w L s.heap a) (hh : A.handled = none) (few : L.length < 64)
    (hQ : ∀ s' p (out : Array Value) (c : Nat) (ys : List Str), (∀ b o, s.heap.get? b = some o → s'.heap.get? b = some o) → s'.gens = s.gens → s'.os = s.os → s.heap.objs.size ≤ p → s'.heap.get? p = some (seqObj "list" out c) → StrsAre out.toList ys → (∀ y, y ∈ ys ↔ y ∈ L) → ys.Nodup → sortedS ys = true → Q (.ref p) s') :
    wpAny (model P w) A (call (.builtin "sorted") [.ref a]) Q E s := by
  obtain ⟨o, es, ep, t, ho, ex, hd, g, nd, sz, ft, rs, ld, al⟩ := R
  refine Calls.call_function_entry kind_sorted plain_sorted entry_sorted (args_sorted1 _) ?_
  unfold Builtin.«sorted»
  refine wpAny_bind (m := checkCount "sorted" 1 1 _) (wpAny_pure ?_)
  refine wpAny_bind (collect_set (A := A.in1) hh ⟨o, ho, ex.1, hd⟩ ft (Nat.lt_of_le_of_lt sz (Nat.lt_trans few (by decide))) rs ld fun s1 vs k1 big g1 o1 pm => ?_)
  have many : vs.length ≤ L.length := by rw [pm.length_eq, List.length_map, Array.length_toList]; exact sz
  have each : ∀ v ∈ vs, ∃ k tk, v = Value.str k tk ∧ k ∈ L := fun v hv => by
    obtain ⟨e, he, q⟩ := List.mem_map.mp (pm.mem_iff.mp hv)
    obtain ⟨k, tk, e1, _, m⟩ := g e he
    exact ⟨k, tk, by rw [← q]; exact e1, m⟩
  have texts : StrsAre vs (vs.map strOf) := strsAre_map vs fun v hv => by
    obtain ⟨k, tk, e1, _⟩ := each v hv
    exact ⟨k, tk, e1⟩
  refine wpAny_bind (wpAny_newList ?_ (by have : (64 : Nat) ≤ sizeLine := by decide
                                          omega))
  have new : (s1.heap.push (seqObj "list" vs.toArray 0)).get? s1.heap.objs.size = some (seqObj "list" vs.toArray 0) := Heap.get?_push_size _ rfl
  refine wpAny_bind (wpAny_holding (wpAny_call_entry slot_list_sort ⟨_, new, rfl⟩ entry_list_sort (list_sort_treeK PyProof.Rows.strKind_oneLt new texts.keysOf (fun v1 v2 rest e => keyKind_strs (by rw [← e]; exact texts)) (by omega) fun st' a1 a2 => ⟨_, rfl, ?_⟩) (args_list_sort _)))
  obtain ⟨ys, h1, h2, h3⟩ := sorted_out_str texts a1 a2
  obtain ⟨c, hc⟩ := sortedHeap_at (vs := vs) (out := (arrOf st').map (·.2)) new
  have pk : (vs.map strOf).Perm (es.toList.map keyT) := by
    have h := pm.map strOf
    rw [List.map_map] at h
    refine h.trans ?_
    rw [List.map_congr_left fun e he => ?_]
    obtain ⟨k, tk, e1, _⟩ := g e he
    show strOf e.2 = keyT e
    unfold keyT
    rw [e1]; rfl
  have py := h2.trans pk
  refine wpAny_pure ⟨_, rfl, hQ _ s1.heap.objs.size _ c ys (fun b u e => ?_) g1 o1 big hc h1 (fun y => ?_) (py.nodup_iff.mpr nd) h3⟩
  · have q := k1 b u e
    have lt := Heap.lt_size q
    show (sortedHeap (s1.heap.push (seqObj "list" vs.toArray 0)) s1.heap.objs.size vs _).get? b = some u
    rw [sortedHeap_old (Nat.ne_of_lt lt) (by rw [size_push']; exact Nat.lt_succ_of_lt lt)]
    exact Heap.get?_push_of_some _ q
  · rw [py.mem_iff]
    refine ⟨fun hy => ?_, al y⟩
    obtain ⟨e, he, q⟩ := List.mem_map.mp hy
    obtain ⟨k, tk, e1, _, m⟩ := g e he
    unfold keyT at q
    rw [e1] at q
    exact q ▸ m
end
/-- the set as a thing -/
def SetTO (w : World) (L : List Str) (a : Addr) : HO := .ext fun h => SetT w L h a
theorem setTO_new {w : World} {P : Program} {H : Hp} {h : Heap} {a : Addr} {L : List Str} (R : SetT w L h a) : ObjOk P w H h a (SetTO w L a) := by
  have ⟨o, _, _, _, ho, _⟩ := R
  exact ⟨R, ⟨o, ho⟩, fun h1 h2 p k => SetT.at p k⟩
section
variable {X : Cx}
theorem setTO_get {pins : List (Addr × Obj)} {σ : L2.St} {H : Hp} {s : Shared} {a : Addr} {L : List Str} (I : Inv X pins σ H s) (ha : H a = some (SetTO X.w L a)) : SetT X.w L s.heap a := (I.hok a _ ha).1
def rSortT (w : World) : List V → Hp → VK → Prop := fun vs H Q => ∃ (a : Addr) (L : List Str), vs = [V.ref a] ∧ H a = some (SetTO w L a) ∧ L.length < 64 ∧ ∀ (ys : List Str) (p : Addr), (∀ y, y ∈ ys ↔ y ∈ L) → ys.Nodup → sortedS ys = true → H p = none → Q (.ref p) (upd H p (.lst (ys.map V.str)))
theorem cr_sortT (hc : X.calm = true) : CallR X (.builtin "sorted") (rSortT X.w) := by
  intro pins s σ H vs us Q I r h
  obtain ⟨a, L, ev, ha, few, q⟩ := h
  subst ev
  rw [Vals.ref1 r]
  refine sorted_T (setTO_get I ha) (I.ok.hd hc) few fun s' p out c ys k g o hp hg hi hm hnd hso => ?_
  have len : (ys.map V.str).length ≤ sizeLine := by
    rw [List.length_map]
    have hl := nodup_le hnd (m := L) fun y hy => (hm y).mp hy
    have : (64 : Nat) ≤ sizeLine := by decide
    omega
  have hn : H p = none := I.hok.fresh hp
  have J : Inv X pins σ (upd H p (.lst (ys.map V.str))) { s with heap := s'.heap, gens := s'.gens, drawn := s'.drawn, toks := s'.toks } :=
    I.call (ch := []) (Un.laid k hp hn) (I.hok.laid k hp ⟨len, out.toList, c, vals_of_strs hi, hg⟩) (by rw [g]; exact I.bare) (fun _ z => nomatch z)
  have e : s' = { s with heap := s'.heap, gens := s'.gens, drawn := s'.drawn, toks := s'.toks } := by
    cases s'
    cases s
    cases o
    rfl
  rw [e]
  exact ⟨.ref p, _, J, rfl, q ys p hm hnd hso hn⟩
/-- set.add of a text -/
theorem addT_ok {pins : List (Addr × Obj)} {σ : L2.St} {H : Hp} {s : Shared} {E : Value → Shared → Prop} {D : Addr} {L : List Str} {y : Str} {ty : Tok} {Q : Value → Shared → Prop} (I : Inv X pins σ H s) (hD : H D = some (SetTO X.w L D)) (few : L.length + 1 < 64)
    (h : ∀ s', Inv X pins σ (upd H D (SetTO X.w (insT L y) D)) s' → Q .none s') : wpAny (model X.prog X.w) X.A (call (.builtin "set.add") [.ref D, .str y ty]) Q E s := by
  have R := setTO_get I hD
  refine setT_add R (Nat.lt_trans few (by decide)) fun h' sb new => ?_
  have he : ∃ u, h'.get? D = some u := by
    have ⟨o, _, _, _, ho, _⟩ := new
    exact ⟨o, ho⟩
  exact h _ (I.write (e := D) (t' := s.toks + 1) (by rw [hD]; trivial) (.inl rfl) (fun b u hb hu => (sb.2 b hb).trans hu) he (setTO_new new))
theorem setT_fresh {h : Heap} (w : World) : SetT w [] (h.push { cls := .type "set", dict := none, data := .set #[] 0 (.fresh 0 0 (!w.params.followText "set-order")) }) h.objs.size :=
  ⟨_, #[], 0, _, Heap.get?_push_size _ rfl, ⟨rfl, rfl, rfl⟩, rfl, (fun e he => by simp at he), (by simp), Nat.zero_le _, (by rfl), List.Pairwise.nil, by
    show _ ∨ (!w.params.followText "set-order") = true
    cases w.params.followText "set-order"
    · exact .inr rfl
    · exact .inl rfl, (fun k hk => by cases hk)⟩
end
end Kp
end
section
set_option Elab.async false
set_option linter.all false
set_option maxRecDepth 100000
set_option maxHeartbeats 4000000
namespace Kp
open PySem PySem.Spec PyProof.Rows L2
section
variable (el ta ia tb ib : Expr) (fa fb : List Expr) (sc : Scope) (ps : Pos) (it acc : Value) (env : Env)
/-- {el for ta in ia if fa for tb in ib if fb} -/
abbrev twoFors : Expr := .SetComp el [⟨ta, ia, fa, 0⟩, ⟨tb, ib, fb, 0⟩] sc ps
/-- do the tests hold -/
abbrev allOf (tests : List Expr) : Sem Bool := forIn tests true fun c r => if r = true then do let ok ← isTrue c env (eval c env); pure (ForInStep.yield ok) else pure (ForInStep.yield r)
theorem turn_a : compTurn (twoFors el ta ia tb ib fa fb sc ps) 0 it acc env = (do
    standAt ia.pos
    let nx ← pyNext it
    match nx with
    | none => pure (.done .next)
    | some v => do
      letOwnedTupleGo ta it v
      assign ta env v
      let ok ← allOf env fa
      if ok = true then do
        let src ← eval ib env
        standAt ib.pos
        let src ← foldedSetIterable ib env src
        let inner ← holding [src] (pyIter src)
        let _ ← runOwn (.compStart (twoFors el ta ia tb ib fa fb sc ps) 1 inner acc env) env
        again (.compLoop (twoFors el ta ia tb ib fa fb sc ps) 0 it acc env)
      else again (.compLoop (twoFors el ta ia tb ib fa fb sc ps) 0 it acc env)) := by rfl
theorem turn_b : compTurn (twoFors el ta ia tb ib fa fb sc ps) 1 it acc env = (do
    standAt ib.pos
    let nx ← pyNext it
    match nx with
    | none => pure (.done .next)
    | some v => do
      letOwnedTupleGo tb it v
      assign tb env v
      let ok ← allOf env fb
      if ok = true then do
        let _ ← ((do
          let got ← eval el env
          standAt el.pos
          let _ ← call (.builtin "set.add") [acc, got]) : Sem Unit)
        again (.compLoop (twoFors el ta ia tb ib fa fb sc ps) 1 it acc env)
      else again (.compLoop (twoFors el ta ia tb ib fa fb sc ps) 1 it acc env)) := by rfl
end
section
variable {pr : Program} {w : World} {A : Around} {R : Result → Shared → Prop} {s : Shared} {el ta ia tb ib : Expr} {fa fb : List Expr} {sc : Scope} {ps : Pos} {it acc : Value} {env : Env}
/-- where an error goes -/
abbrev out (pr : Program) (w : World) (A : Around) (env : Env) (R : Result → Shared → Prop) : Value → Shared → Prop := notedBy (model pr w) A env fun e s' => R (.error e) s'
theorem loop_a (plain : ∀ x, foldedSetIterable ib env x = pure x) (J : Nat → Shared → Prop)
    (turn : ∀ n s, J n s → wpAny (model pr w) A (pyNext it) (fun nx sA => match nx with
      | none => R (.ok .next) sA
      | some v => wpAny (model pr w) A (letOwnedTupleGo ta it v) (fun _ sB => wpAny (model pr w) A (assign ta env v) (fun _ sC => wpAny (model pr w) A (allOf env fa) (fun ok sD =>
          if ok = true then wpAny (model pr w) A (eval ib env) (fun src sE => wpAny (model pr w) A (pyIter src) (fun inner sF =>
            codeAny (model pr w) A (.compStart (twoFors el ta ia tb ib fa fb sc ps) 1 inner acc env) (fun r s' => match r with
              | .ok _ => ∃ m, m < n ∧ J m s'
              | .error _ => False) sF) (out pr w A env R) sE) (out pr w A env R) sD
          else ∃ m, m < n ∧ J m sD) (out pr w A env R) sC) (out pr w A env R) sB) (out pr w A env R) sA) (out pr w A env R) s)
    (n : Nat) (h : J n s) : codeAny (model pr w) A (.compLoop (twoFors el ta ia tb ib fa fb sc ps) 0 it acc env) R s := by
  refine codeAny_loop rfl J (fun n s hJ => ?_) n h
  show wpAny _ A ((compTurn (twoFors el ta ia tb ib fa fb sc ps) 0 it acc env).onRaise (fun x => do noteFrame x env; theTreesLotGoes x)) _ _ s
  refine wpAny_noted ?_
  rw [turn_a]
  refine wpAny_bind (wpAny_standAt (wpAny_bind (wpAny_mono (turn n s hJ) (fun nx sA hA => ?_) fun _ _ e => e)))
  cases nx with
  | none => exact wpAny_pure hA
  | some v =>
    refine wpAny_bind (wpAny_mono hA (fun _ sB hB => wpAny_bind (wpAny_mono hB (fun _ sC hC => wpAny_bind (wpAny_mono hC (fun ok sD hD => ?_) fun _ _ e => e)) fun _ _ e => e)) fun _ _ e => e)
    cases ok with
    | false => exact wpAny_pure ⟨rfl, hD⟩
    | true =>
      refine wpAny_bind (wpAny_mono hD (fun src sE hE => ?_) fun _ _ e => e)
      refine wpAny_bind (wpAny_standAt (wpAny_bind (wpAny_of_eq (plain src) (wpAny_bind (wpAny_holding (wpAny_mono hE (fun inner sF hF => ?_) fun _ _ e => e))))))
      refine wpAny_bind (wpAny_runOwn ?_)
      rw [Around.mark_none]
      refine codeAny_mono hF fun r s' hr => ?_
      cases r with
      | ok f =>
        first
          | exact wpAny_pure ⟨rfl, hr⟩
          | exact wpAny_bind (wpAny_pure (wpAny_pure ⟨rfl, hr⟩))
      | error e => exact hr.elim
theorem loop_b (J : Nat → Shared → Prop)
    (turn : ∀ n s, J n s → wpAny (model pr w) A (pyNext it) (fun nx sA => match nx with
      | none => R (.ok .next) sA
      | some v => wpAny (model pr w) A (letOwnedTupleGo tb it v) (fun _ sB => wpAny (model pr w) A (assign tb env v) (fun _ sC => wpAny (model pr w) A (allOf env fb) (fun ok sD =>
          if ok = true then wpAny (model pr w) A (eval el env) (fun got sE => wpAny (model pr w) A (call (.builtin "set.add") [acc, got]) (fun _ sF => ∃ m, m < n ∧ J m sF) (out pr w A env R) sE) (out pr w A env R) sD
          else ∃ m, m < n ∧ J m sD) (out pr w A env R) sC) (out pr w A env R) sB) (out pr w A env R) sA) (out pr w A env R) s)
    (n : Nat) (h : J n s) : codeAny (model pr w) A (.compLoop (twoFors el ta ia tb ib fa fb sc ps) 1 it acc env) R s := by
  refine codeAny_loop rfl J (fun n s hJ => ?_) n h
  show wpAny _ A ((compTurn (twoFors el ta ia tb ib fa fb sc ps) 1 it acc env).onRaise (fun x => do noteFrame x env; theTreesLotGoes x)) _ _ s
  refine wpAny_noted ?_
  rw [turn_b]
  refine wpAny_bind (wpAny_standAt (wpAny_bind (wpAny_mono (turn n s hJ) (fun nx sA hA => ?_) fun _ _ e => e)))
  cases nx with
  | none => exact wpAny_pure hA
  | some v =>
    refine wpAny_bind (wpAny_mono hA (fun _ sB hB => wpAny_bind (wpAny_mono hB (fun _ sC hC => wpAny_bind (wpAny_mono hC (fun ok sD hD => ?_) fun _ _ e => e)) fun _ _ e => e)) fun _ _ e => e)
    cases ok with
    | false => exact wpAny_pure ⟨rfl, hD⟩
    | true => exact wpAny_bind (wpAny_bind (wpAny_mono hD (fun got sE hE => wpAny_bind (wpAny_standAt (wpAny_bind (wpAny_mono hE (fun _ sF hF => wpAny_pure (wpAny_pure ⟨rfl, hF⟩)) fun _ _ e => e)))) fun _ _ e => e))
/-- the second for begins -/
theorem start_b (h0 : codeAny (model pr w) A (.compLoop (twoFors el ta ia tb ib fa fb sc ps) 1 it acc env) R s)
    (h : wpAny (model pr w) A (pyIter it) (fun it' s' => codeAny (model pr w) A (.compLoop (twoFors el ta ia tb ib fa fb sc ps) 1 it' acc env) R s') (out pr w A env R) s) :
    codeAny (model pr w) A (.compStart (twoFors el ta ia tb ib fa fb sc ps) 1 it acc env) R s := by
  refine codeAny_of_tree ?_
  show wpAny _ _ ((compStart (twoFors el ta ia tb ib fa fb sc ps) 1 it acc env).onRaise (fun x => do noteFrame x env; standAt theWindowsPlace)) _ _ s
  refine wpAny_notedAt ?_
  unfold compStart
  show wpAny _ _ (ask >>= _) _ _ s
  refine wpAny_bind (wpAny_askSetting (wpAny_ite ?_))
  split
  · first
      | exact wpAny_bind (wpAny_pure (wpAny_pure (And.intro rfl h0)))
      | exact wpAny_pure (And.intro rfl h0)
  · first
      | exact wpAny_bind (wpAny_rule (wpAny_bind (wpAny_standAt (wpAny_bind (wpAny_mono h (fun it' s' h' => wpAny_pure (And.intro rfl h')) fun _ _ e => e)))))
      | (refine wpAny_bind (wpAny_rule ?_); show wpAny _ _ (standAt ib.pos >>= _) _ _ s; exact wpAny_bind (wpAny_standAt (wpAny_bind (wpAny_mono h (fun it' s' h' => wpAny_pure (And.intro rfl h')) fun _ _ e => e))))
end
section
variable {X : Cx}
/-- {el for tg in i0 for tg1 in i1 if ..}, texts of L: D the new set -/
def tSc2 (w : World) (wi : TI) (g : TG) (tt : TT) (wi1 : TI) (g1 : TG) (tt1 : TT) (te : TE) (vs vs1 : List Nat) : TE := fun σ H Q => wi σ H fun J H1 => ∀ D, H1 D = none → ∃ W : Nat → Nat → Hp → Prop, (∃ m, W 0 m (upd H1 D (SetTO w [] D))) ∧ ∀ i m H, W i m H →
  (J.stop i H ∧ Q (.ref D) H) ∨ (J.go i H ∧ ∃ Nx : Hp → Prop, (∀ H', Nx H' → ∃ m', m' < m ∧ W (i + 1) m' H') ∧ ∀ x H', J.yld i H x H' → g x (wipe σ vs) H' fun σ2 H2 => wipe σ2 vs = wipe σ vs ∧ tt σ2 H2 fun b H3 =>
    if b = true then wi1 σ2 H3 fun J1 H4 => ∃ W1 : Nat → Nat → Hp → Prop, (∃ m, W1 0 m H4) ∧ ∀ j k H, W1 j k H →
      (J1.stop j H ∧ Nx H) ∨ (J1.go j H ∧ ∃ Nx1 : Hp → Prop, (∀ H', Nx1 H' → ∃ k', k' < k ∧ W1 (j + 1) k' H') ∧ ∀ x H', J1.yld j H x H' → g1 x (wipe σ2 vs1) H' fun σ3 H5 => wipe σ3 vs1 = wipe σ2 vs1 ∧ tt1 σ3 H5 fun b H6 =>
        if b = true then te σ3 H6 fun y H7 => ∃ (t : Str) (L : List Str), y = .str t ∧ L.length + 1 < 64 ∧ H7 D = some (SetTO w L D) ∧ Nx1 (upd H7 D (SetTO w (insT L t) D)) else Nx1 H6)
    else Nx H3)
theorem sc2_core {pins : List (Addr × Obj)} {s : Shared} {σ : L2.St} {H : Hp} {Q : VK} {el tg ia tg1 ib : Expr} {fa fb : List Expr} {scope : Scope} {own : List (PySem.Str × Nat)} {vs1 : List Nat} {ps ps' : Pos} {wi wi1 : TI} {g g1 : TG} {tt tt1 : TT} {te : TE} {use : Option (Value → Sem Unit)} {Qf : Value → Shared → Prop}
    (calm : X.calm = true) (nd : X.N.Nodup) (I : Inv X pins σ H s) (hi : PI X tg ia wi) (ok : BlkOk X.N X.env.scope scope own) (sub : ∀ i ∈ vs1, i ∈ own.map (·.2))
    (hg : ∀ (s : Shared) (H : Hp) (C : Addr) (cl : List (PySem.Str × Addr)) (fp : List Addr), PG (X.blk s H scope (compEnvC scope cl C X.env) fp) tg g) (ht : ∀ (s : Shared) (H : Hp) (C : Addr) (cl : List (PySem.Str × Addr)) (fp : List Addr), PTs (X.blk s H scope (compEnvC scope cl C X.env) fp) fa tt)
    (he : ∀ (s : Shared) (H : Hp) (C : Addr) (cl : List (PySem.Str × Addr)) (fp : List Addr), PE (X.blk s H scope (compEnvC scope cl C X.env) fp) el te) (plain : ∀ x, foldedSetIterable ia X.env x = pure x)
    (hi1 : ∀ (s : Shared) (H : Hp) (C : Addr) (cl : List (PySem.Str × Addr)) (fp : List Addr), PI (X.blk s H scope (compEnvC scope cl C X.env) fp) tg1 ib wi1)
    (hg1 : ∀ (s : Shared) (H : Hp) (C : Addr) (cl : List (PySem.Str × Addr)) (fp : List Addr), PG (X.blk s H scope (compEnvC scope cl C X.env) fp) tg1 g1)
    (ht1 : ∀ (s : Shared) (H : Hp) (C : Addr) (cl : List (PySem.Str × Addr)) (fp : List Addr), PTs (X.blk s H scope (compEnvC scope cl C X.env) fp) fb tt1)
    (plain1 : ∀ env x, foldedSetIterable ib env x = pure x)
    (h : tSc2 X.w wi g tt wi1 g1 tt1 te (own.map (·.2)) vs1 σ H Q)
    (back : ∀ D C s' m H', Inv X pins σ H' s' → Q (.ref D) H' → s'.heap.Ns C m → FpOk X pins H' C → compPost (model X.prog X.w) X.A X.xe use Qf (.ref D) C (.ok .next) s') :
    wpAny (model X.prog X.w) X.A (comprehension (twoFors el tg ia tg1 ib fa fb scope ps) scope X.env ps' (newSet (.type "set")) false (eval ia X.env) use) Qf X.xe s := by
  have frees : ∀ y ∈ scope.names, y.2 = .free → ∃ c, X.env.cells.lookup y.1 = some c := fun y hy e => by
    rcases ok.free y hy e with k | k
    · exact I.ok.has _ (.inl k)
    · exact I.ok.has _ (.inr k)
  refine wpAny_comprehension_free (use := use) rfl plain (closure_ok frees) ok.kind (fun y hy e => by rw [ok.uniq y hy, e]) (thn (hi.run pins s σ H _ I h) fun xv s1 hx => thn hx fun itv s2 h2 => ?_)
  obtain ⟨it, fp, tn, J, H2, eit, I2, T, st2, f2, q⟩ := h2
  subst eit
  refine PpSet.newSet_ok (newEnv_comp ?_)
  -- the new set stands at D
  generalize hD : s2.heap.objs.size = D
  have Dn : H2 D = none := I2.hok.fresh (Nat.le_of_eq hD)
  obtain ⟨W, ⟨m0, w0⟩, turn⟩ := q D Dn
  generalize hs3 : ({ s2 with heap := s2.heap.push { cls := .type "set", dict := none, data := .set #[] 0 (.fresh 0 0 (!X.w.params.followText "set-order")) } } : Shared) = s3
  have h3 : s3.heap = s2.heap.push { cls := .type "set", dict := none, data := .set #[] 0 (.fresh 0 0 (!X.w.params.followText "set-order")) } := by rw [← hs3]
  have I3 : Inv X pins σ (upd H2 D (SetTO X.w [] D)) s3 := by
    rw [← hs3]
    refine I2.laid (t' := s2.toks) (fun b o e => Heap.get?_push_of_some _ e) (Nat.le_of_eq hD) ?_
    rw [← hD]
    exact setTO_new (setT_fresh X.w)
  have old : ∀ b ∈ fp, b < s2.heap.objs.size := fun b hb => by
    obtain ⟨o, e, _⟩ := T.obj _ _ st2 b hb
    exact Heap.lt_size e
  have f3 : ∀ b ∈ fp, FpOk X pins (upd H2 D (SetTO X.w [] D)) b ∧ b < s3.heap.objs.size := fun b hb => by
    have lt := old b hb
    refine ⟨⟨?_, (f2 b hb).2⟩, by rw [h3, Heap.size_push]; exact Nat.lt_succ_of_lt lt⟩
    rw [upd_ne (by rw [← hD]; exact Nat.ne_of_lt lt)]
    exact (f2 b hb).1
  have st3 : tn 0 s3.heap := T.keep _ _ _ st2 fun b _ o e => by rw [h3]; exact Heap.get?_push_of_some _ e
  have I4 := block_start I3 ok nd f3
  generalize hcl : cellsFrom (s3.heap.objs.size + 1) scope.names (cloFrom X.env.cells scope.names []) = cl at I4 ⊢
  have pg := hg s3 (upd H2 D (SetTO X.w [] D)) s3.heap.objs.size cl fp
  have pt := ht s3 (upd H2 D (SetTO X.w [] D)) s3.heap.objs.size cl fp
  have pe := he s3 (upd H2 D (SetTO X.w [] D)) s3.heap.objs.size cl fp
  have pi1 := hi1 s3 (upd H2 D (SetTO X.w [] D)) s3.heap.objs.size cl fp
  have pg1 := hg1 s3 (upd H2 D (SetTO X.w [] D)) s3.heap.objs.size cl fp
  have pt1 := ht1 s3 (upd H2 D (SetTO X.w [] D)) s3.heap.objs.size cl fp
  show codeAny _ _ (.compStart (twoFors el tg ia tg1 ib fa fb scope ps) 0 (.ref it) (.ref D) (compEnvC scope cl s3.heap.objs.size X.env)) (compPost (model X.prog X.w) X.A X.xe use Qf (.ref D) s3.heap.objs.size) { s3 with heap := pushCells (s3.heap.push { cls := .type "dict", data := .dict #[] }) scope.names }
  have none0 : ∀ b ∈ fp, (upd H2 D (SetTO X.w [] D)) b = none := fun b hb => (f3 b hb).1.1
  generalize hce : compEnvC scope cl s3.heap.objs.size X.env = ce at I4 pg pt pe pi1 pg1 pt1 ⊢
  have cL : ce.locals = s3.heap.objs.size := by subst hce; rfl
  generalize hH3 : upd H2 D (SetTO X.w [] D) = H3 at I3 I4 pg pt pe pi1 pg1 pt1 w0 none0 f3
  generalize hs4 : ({ s3 with heap := pushCells (s3.heap.push { cls := .type "dict", data := .dict #[] }) scope.names } : Shared) = s4 at I4 ⊢
  have st4 : tn 0 s4.heap := T.keep _ _ _ st3 fun b _ o e => by rw [← hs4]; exact pushCells_keeps _ _ _ _ (Heap.get?_push_of_some _ e)
  have mine : ∀ {σ' : L2.St} {H' : Hp} {s' : Shared}, Inv (X.blk s3 H3 scope ce fp) [] σ' H' s' → (∀ b ∈ fp, H' b = none) → ∀ b ∈ fp, FpOk (X.blk s3 H3 scope ce fp) [] H' b := fun {σ' H' s'} I' hn b hb =>
    ⟨hn b hb, (I'.ok.exf b hb).1, I'.ok.exfs b hb, .inl hb, fun x c e => (I'.ok.exf b hb).2 x c e, fun p hp => absurd (show p ∈ ([] : List (Addr × Obj)) ++ [] from hp) (by simp)⟩
  have outer : codeAny (model X.prog X.w) X.A (.compLoop (twoFors el tg ia tg1 ib fa fb scope ps) 0 (.ref it) (.ref D) ce) (compPost (model X.prog X.w) X.A X.xe use Qf (.ref D) s3.heap.objs.size) s4 := by
    refine loop_a (plain1 ce) (fun n s' => ∃ i H', Inv (X.blk s3 H3 scope ce fp) [] (wipe σ (own.map (·.2))) H' s' ∧ tn i s'.heap ∧ (∀ b ∈ fp, H' b = none) ∧ W i n H') ?_ m0 ⟨0, H3, I4, st4, none0, w0⟩
    rintro n s5 ⟨i, H5, I5, st5, n5, w5⟩
    rcases turn i n H5 w5 with ⟨stop, qq⟩ | ⟨go, Nx, hNx, step⟩
    · refine thnF (T.done (X.blk s3 H3 scope ce fp) rfl rfl rfl calm i [] s5 _ H5 (fun _ _ => False) I5 (mine I5 n5) st5 stop) fun r s6 ⟨hr, I6⟩ => ?_
      subst hr
      have I7 : Inv X pins σ H5 s6 := I3.call' (ch := fp) I6.os I6.base I6.hok I6.bare fun b hb => ⟨(f3 b hb).1.2.2.2.1, (f3 b hb).1.2.1, (f3 b hb).1.2.2.2.2.1, (f3 b hb).1.2.2.2.2.2⟩
      have nC : H5 s3.heap.objs.size = none := by
        have z : H5 ce.locals = none := I6.free
        rw [cL] at z
        exact z
      obtain ⟨m, hn, _⟩ := I6.loc
      have hn : s6.heap.Ns ce.locals m := hn
      rw [cL] at hn
      exact back D s3.heap.objs.size s6 m H5 I7 qq hn (I3.fpOk (Nat.le_refl _) nC)
    · refine thnF (T.item (X.blk s3 H3 scope ce fp) rfl rfl rfl calm i [] s5 _ H5 (fun _ _ => False) I5 (mine I5 n5) st5 go) fun r s6 ⟨u, hr, h6⟩ => ?_
      subst hr
      refine thnF h6 fun _ s7 ⟨x, H7, I7, r7, y7, st7, n7⟩ => ?_
      have I7' := I7.pinned (mine I7 n7) (T.obj _ _ st7)
      refine thnF (pg.run _ s7 _ H7 x u _ I7' r7 (step x H7 y7)) fun _ s8 ⟨σ8, H8, I8, hw8, q8⟩ => ?_
      refine thnF (pt.run _ s8 σ8 H8 _ I8 q8) fun b s9 ⟨H9, I9, q9⟩ => ?_
      have turnEnd : ∀ {σ9 : L2.St} {s' : Shared} {H' : Hp}, Inv (X.blk s3 H3 scope ce fp) ([] ++ pinsAt fp s7.heap) σ9 H' s' → (wipe σ (own.map (·.2))).length = σ9.length → (∀ (j : Nat) v, (wipe σ (own.map (·.2)))[j]? = some (some v) → σ9[j]? = some (some v)) → Nx H' →
          ∃ m, m < n ∧ ∃ i H', Inv (X.blk s3 H3 scope ce fp) [] (wipe σ (own.map (·.2))) H' s' ∧ tn i s'.heap ∧ (∀ b ∈ fp, H' b = none) ∧ W i m H' := fun {σ9 s' H'} I' hl hk nx => by
        obtain ⟨m', hm, w'⟩ := hNx H' nx
        have pin' : ∀ b ∈ fp, ∀ o, s7.heap.get? b = some o → s'.heap.get? b = some o ∧ H' b = none := fun b hb o e => by
          have z := I'.pin (b, o) (List.mem_append_right _ (List.mem_append_right _ (mem_pinsAt hb e)))
          exact ⟨z.1, z.2.1⟩
        refine ⟨m', hm, i + 1, H', (I'.unpinned (pins := [])).weak hl hk, T.keep _ _ _ st7 fun b hb o e => (pin' b hb o e).1, fun b hb => ?_, w'⟩
        obtain ⟨o, e, _⟩ := T.obj _ _ st7 b hb
        exact (pin' b hb o e).2
      have hl8 : (wipe σ (own.map (·.2))).length = σ8.length := by rw [← hw8, wipe_length]
      have hk8 : ∀ (j : Nat) v, (wipe σ (own.map (·.2)))[j]? = some (some v) → σ8[j]? = some (some v) := fun j v e => by
        rw [← hw8] at e
        exact (wipe_some e).1
      have hk9 : ∀ (j : Nat) v, (wipe σ (own.map (·.2)))[j]? = some (some v) → (wipe σ8 vs1)[j]? = some (some v) := fun j v e => by
        rw [← hw8] at e
        obtain ⟨e1, e2⟩ := wipe_some e
        rw [wipe_out fun z => e2 (sub j z)]
        exact e1
      cases b with
      | false =>
        simp only [Bool.false_eq_true, if_false] at q9 ⊢
        exact turnEnd I9 hl8 hk8 q9
      | true =>
        simp only [if_true] at q9 ⊢
        refine thnF (pi1.run _ s9 σ8 H9 _ I9 q9) fun xv s10 hx => thnF hx fun itv s11 h11 => ?_
        obtain ⟨it1, fp1, tn1, J1, H11, e1, I11, T1, st11, f11, W1, ⟨m1, w1⟩, turn1⟩ := h11
        subst e1
        have mine1 : ∀ {H' : Hp}, (∀ b ∈ fp1, H' b = none) → ∀ b ∈ fp1, FpOk (X.blk s3 H3 scope ce fp) ([] ++ pinsAt fp s7.heap) H' b := fun hn b hb => ⟨hn b hb, (f11 b hb).2⟩
        have inner : codeAny (model X.prog X.w) X.A (.compLoop (twoFors el tg ia tg1 ib fa fb scope ps) 1 (.ref it1) (.ref D) ce)
            (fun r s' => match r with
              | .ok _ => ∃ m, m < n ∧ ∃ i H', Inv (X.blk s3 H3 scope ce fp) [] (wipe σ (own.map (·.2))) H' s' ∧ tn i s'.heap ∧ (∀ b ∈ fp, H' b = none) ∧ W i m H'
              | .error _ => False) s11 := by
          refine loop_b (fun k s' => ∃ j H', Inv (X.blk s3 H3 scope ce fp) ([] ++ pinsAt fp s7.heap) (wipe σ8 vs1) H' s' ∧ tn1 j s'.heap ∧ (∀ b ∈ fp1, H' b = none) ∧ W1 j k H') ?_ m1 ⟨0, H11, I11.weak (wipe_length _ _) (fun j v e => (wipe_some e).1), st11, fun b hb => (f11 b hb).1, w1⟩
          rintro k s12 ⟨j, H12, I12, st12, n12, w12⟩
          rcases turn1 j k H12 w12 with ⟨stop1, nx1⟩ | ⟨go1, Nx1, hNx1, step1⟩
          · refine thnF (T1.done (X.blk s3 H3 scope ce fp) rfl rfl rfl calm j _ s12 (wipe σ8 vs1) H12 (fun _ _ => False) I12 (mine1 n12) st12 stop1) fun r s13 ⟨hr, I13⟩ => ?_
            subst hr
            exact turnEnd I13 (hl8.trans (wipe_length σ8 vs1).symm) hk9 nx1
          · refine thnF (T1.item (X.blk s3 H3 scope ce fp) rfl rfl rfl calm j _ s12 (wipe σ8 vs1) H12 (fun _ _ => False) I12 (mine1 n12) st12 go1) fun r s13 ⟨u1, hr, h13⟩ => ?_
            subst hr
            refine thnF h13 fun _ s14 ⟨x1, H14, I14, r14, y14, st14, n14⟩ => ?_
            have I14' := I14.pinned (mine1 n14) (T1.obj _ _ st14)
            refine thnF (pg1.run _ s14 (wipe σ8 vs1) H14 x1 u1 _ I14' r14 (step1 x1 H14 y14)) fun _ s15 ⟨σ15, H15, I15, hw15, q15⟩ => ?_
            refine thnF (pt1.run _ s15 σ15 H15 _ I15 q15) fun b1 s16 ⟨H16, I16, q16⟩ => ?_
            have innerEnd : ∀ {s' : Shared} {H' : Hp}, Inv (X.blk s3 H3 scope ce fp) (([] ++ pinsAt fp s7.heap) ++ pinsAt fp1 s14.heap) σ15 H' s' → Nx1 H' → ∃ m, m < k ∧ ∃ j H', Inv (X.blk s3 H3 scope ce fp) ([] ++ pinsAt fp s7.heap) (wipe σ8 vs1) H' s' ∧ tn1 j s'.heap ∧ (∀ b ∈ fp1, H' b = none) ∧ W1 j m H' := fun {s' H'} I' nx => by
              obtain ⟨m', hm, w'⟩ := hNx1 H' nx
              have pin' : ∀ b ∈ fp1, ∀ o, s14.heap.get? b = some o → s'.heap.get? b = some o ∧ H' b = none := fun b hb o e => by
                have z := I'.pin (b, o) (List.mem_append_right _ (List.mem_append_right _ (mem_pinsAt hb e)))
                exact ⟨z.1, z.2.1⟩
              refine ⟨m', hm, j + 1, H', I'.unpinned.weak (by rw [← hw15, wipe_length]) (fun j v e => by rw [← hw15] at e; exact (wipe_some e).1), T1.keep _ _ _ st14 fun b hb o e => (pin' b hb o e).1, fun b hb => ?_, w'⟩
              obtain ⟨o, e, _⟩ := T1.obj _ _ st14 b hb
              exact (pin' b hb o e).2
            cases b1 with
            | false =>
              simp only [Bool.false_eq_true, if_false] at q16 ⊢
              exact innerEnd I16 q16
            | true =>
              simp only [if_true] at q16 ⊢
              refine thnF (pe.run _ s16 σ15 H16 _ I16 q16) fun z s17 ⟨yv, H17, I17, r17, t, L, ey, few, hD17, nx⟩ => ?_
              subst ey
              obtain ⟨tk, ez⟩ := r17
              subst ez
              exact addT_ok (X := X.blk s3 H3 scope ce fp) I17 hD17 few fun s18 I18 => innerEnd I18 nx
        exact start_b inner (T1.self X.A 0 _ _ _ st11 inner)
  exact PpSet.codeAny_compStart_set outer (T.self X.A 0 _ _ _ st4 outer)
/-- as a value that is stored in a name -/
theorem eval_two (el ta ia tb ib : Expr) (fa fb : List Expr) (sc : Scope) (ps : Pos) (env : Env) : eval (twoFors el ta ia tb ib fa fb sc ps) env =
    comprehension (twoFors el ta ia tb ib fa fb sc ps) sc env (firstIterPos [⟨ta, ia, fa, 0⟩, ⟨tb, ib, fb, 0⟩] ps) (newSet (.type "set")) (firstAsync [⟨ta, ia, fa, 0⟩, ⟨tb, ib, fb, 0⟩]) (firstIter [⟨ta, ia, fa, 0⟩, ⟨tb, ib, fb, 0⟩] env) := rfl
theorem pe_sc2 {el tg ia tg1 ib : Expr} {fa fb : List Expr} {scope : Scope} {own : List (PySem.Str × Nat)} {vs1 : List Nat} {ps : Pos} {wi wi1 : TI} {g g1 : TG} {tt tt1 : TT} {te : TE}
    (calm : X.calm = true) (nd : X.N.Nodup) (hi : PI X tg ia wi) (ok : BlkOk X.N X.env.scope scope own) (sub : ∀ i ∈ vs1, i ∈ own.map (·.2))
    (hg : ∀ (s : Shared) (H : Hp) (C : Addr) (cl : List (PySem.Str × Addr)) (fp : List Addr), PG (X.blk s H scope (compEnvC scope cl C X.env) fp) tg g) (ht : ∀ (s : Shared) (H : Hp) (C : Addr) (cl : List (PySem.Str × Addr)) (fp : List Addr), PTs (X.blk s H scope (compEnvC scope cl C X.env) fp) fa tt)
    (hi1 : ∀ (s : Shared) (H : Hp) (C : Addr) (cl : List (PySem.Str × Addr)) (fp : List Addr), PI (X.blk s H scope (compEnvC scope cl C X.env) fp) tg1 ib wi1)
    (hg1 : ∀ (s : Shared) (H : Hp) (C : Addr) (cl : List (PySem.Str × Addr)) (fp : List Addr), PG (X.blk s H scope (compEnvC scope cl C X.env) fp) tg1 g1)
    (ht1 : ∀ (s : Shared) (H : Hp) (C : Addr) (cl : List (PySem.Str × Addr)) (fp : List Addr), PTs (X.blk s H scope (compEnvC scope cl C X.env) fp) fb tt1)
    (he : ∀ (s : Shared) (H : Hp) (C : Addr) (cl : List (PySem.Str × Addr)) (fp : List Addr), PE (X.blk s H scope (compEnvC scope cl C X.env) fp) el te)
    (plain : ∀ x, foldedSetIterable ia X.env x = pure x := by intro _; rfl) (plain1 : ∀ env x, foldedSetIterable ib env x = pure x := by intro _ _; rfl) :
    PE X (.SetComp el [⟨tg, ia, fa, 0⟩, ⟨tg1, ib, fb, 0⟩] scope ps) (tSc2 X.w wi g tt wi1 g1 tt1 te (own.map (·.2)) vs1) := by
  refine ⟨fun pins s σ H Q I h => ?_⟩
  rw [eval_two]
  refine sc2_core calm nd I hi ok sub hg ht he plain hi1 hg1 ht1 plain1 h fun D C s' m H' I' q hn f => ⟨m, hn, fun h'' sb => ?_⟩
  obtain ⟨f0, f1, f2, f3, f4, f5⟩ := f
  exact ⟨.ref D, H', I'.turned (t' := s'.toks) (fun b o hb e => (sb.2 b hb).trans e) f0 f1 f3 f4 f5, rfl, q⟩
theorem swaps_set {el : Expr} {gs : List Comprehension} {scope : Scope} {pos py : Pos} {y : PySem.Str} {line : Nat} {env : Env} (fn : env.scope.kind = .function) (loc : env.scope.names.lookup y = some .local) (same : (py.line == pos.line) = true)
    (apart : (scope.names.any fun (n, k) => n == y && (k == .local || k == .cell)) = false) : swapsWith (.SetComp el gs scope pos) (some (.Name y py)) line env = pure true := by
  have kind : env.kindOf y = some .local := loc
  have block : env.blockKind = .function := by
    unfold Env.blockKind
    rw [fn]; rfl
  unfold swapsWith
  simp only [block, kind, apart, Expr.pos, same]
  rfl
/-- named = {..} -/
theorem ps_setSc2 {i : Nat} {y : PySem.Str} {py spos : Pos} {el tg ia tg1 ib : Expr} {fa fb : List Expr} {scope : Scope} {own : List (PySem.Str × Nat)} {vs1 : List Nat} {ps : Pos} {wi wi1 : TI} {g g1 : TG} {tt tt1 : TT} {te : TE}
    (calm : X.calm = true) (nd : X.N.Nodup) (at_i : X.N[i]? = some y) (local_ : X.env.scope.names.lookup y = some .local) (used : swapsWith (.SetComp el [⟨tg, ia, fa, 0⟩, ⟨tg1, ib, fb, 0⟩] scope ps) (some (.Name y py)) spos.line X.env = pure true)
    (hi : PI X tg ia wi) (ok : BlkOk X.N X.env.scope scope own) (sub : ∀ i ∈ vs1, i ∈ own.map (·.2))
    (hg : ∀ (s : Shared) (H : Hp) (C : Addr) (cl : List (PySem.Str × Addr)) (fp : List Addr), PG (X.blk s H scope (compEnvC scope cl C X.env) fp) tg g) (ht : ∀ (s : Shared) (H : Hp) (C : Addr) (cl : List (PySem.Str × Addr)) (fp : List Addr), PTs (X.blk s H scope (compEnvC scope cl C X.env) fp) fa tt)
    (hi1 : ∀ (s : Shared) (H : Hp) (C : Addr) (cl : List (PySem.Str × Addr)) (fp : List Addr), PI (X.blk s H scope (compEnvC scope cl C X.env) fp) tg1 ib wi1)
    (hg1 : ∀ (s : Shared) (H : Hp) (C : Addr) (cl : List (PySem.Str × Addr)) (fp : List Addr), PG (X.blk s H scope (compEnvC scope cl C X.env) fp) tg1 g1)
    (ht1 : ∀ (s : Shared) (H : Hp) (C : Addr) (cl : List (PySem.Str × Addr)) (fp : List Addr), PTs (X.blk s H scope (compEnvC scope cl C X.env) fp) fb tt1)
    (he : ∀ (s : Shared) (H : Hp) (C : Addr) (cl : List (PySem.Str × Addr)) (fp : List Addr), PE (X.blk s H scope (compEnvC scope cl C X.env) fp) el te)
    (plain : ∀ x, foldedSetIterable ia X.env x = pure x := by intro _; rfl) (plain1 : ∀ env x, foldedSetIterable ib env x = pure x := by intro _ _; rfl) :
    PS X (.Assign [.Name y py] (.SetComp el [⟨tg, ia, fa, 0⟩, ⟨tg1, ib, fb, 0⟩] scope ps) spos) (tAsg (tSc2 X.w wi g tt wi1 g1 tt1 te (own.map (·.2)) vs1) (gName i)) := by
  refine ⟨fun pins s σ H D I h => ?_⟩
  rw [exec_Assign_Name_used _ _ _ _ used]
  refine wpAny_bind (wpAny_standAt (wpAny_bind ?_))
  show wpAny _ X.A (do let _ ← comprehension (twoFors el tg ia tg1 ib fa fb scope ps) scope X.env (firstIterPos [⟨tg, ia, fa, 0⟩, ⟨tg1, ib, fb, 0⟩] ps) (newSet (.type "set")) false (eval ia X.env) (some (assign (.Name y py) X.env))) _ _ s
  have h : tSc2 X.w wi g tt wi1 g1 tt1 te (own.map (·.2)) vs1 σ H (fun x H1 => gName i x σ H1 D.nx) := h
  refine wpAny_bind (thn (sc2_core (Qf := fun _ s' => SP X pins D .next s') calm nd I hi ok sub hg ht he plain hi1 hg1 ht1 plain1 h fun S C s' m H' I' q hn f => ?_) fun _ s' hq => wpAny_pure (wpAny_pure hq))
  show wpAny _ _ (assign (.Name y py) X.env (.ref S)) _ _ _
  refine wpAny_assign_Name (store_ok2 (v := V.ref S) I' nd at_i (.inl local_) rfl (fun s2 I2 ⟨a, sb, ha⟩ => ?_) (.inr local_))
  obtain ⟨f0, f1, f2, f3, f4, f5⟩ := f
  have apart : C ≠ a := by
    rcases ha with z | z
    · rw [z]; exact f1
    · exact fun e => f4 y a z e.symm
  refine ⟨m, hn.sameBut sb apart, fun h3 sb3 => ?_⟩
  exact ⟨_, H', I2.turned (t' := s2.toks) (fun b o hb e => (sb3.2 b hb).trans e) f0 f1 f3 f4 f5, q⟩
end
end Kp
end
section
set_option Elab.async false
set_option linter.all false
set_option maxRecDepth 100000
set_option maxHeartbeats 4000000
namespace Kp
open PySem L2 Ka
theorem vals_tail {lo : Nat} (s : Stm) (ok : ∀ l, s = .pl l → l.ok lo) : ∀ v ∈ s.vals.drop 1, (∃ n : Int, v = .int n) ∨ ∃ c, v = .str (ch c) ∧ lo ≤ c ∧ c < lo + 6 := by
  intro v hv
  cases s with
  | pl l =>
    have ok := ok l rfl
    cases l with
    | num x n =>
      have hv : v ∈ [V.str (ch x), V.int (n : Nat)] := hv
      simp only [List.mem_cons, List.not_mem_nil, or_false] at hv
      rcases hv with h | h
      · exact .inr ⟨x, h, ok.1⟩
      · exact .inl ⟨_, h⟩
    | copy x y =>
      have hv : v ∈ [V.str (ch x), V.str (ch y)] := hv
      simp only [List.mem_cons, List.not_mem_nil, or_false] at hv
      rcases hv with h | h
      · exact .inr ⟨x, h, ok.1⟩
      · exact .inr ⟨y, h, ok.2⟩
    | pair x y z =>
      have hv : v ∈ [V.str (ch x), V.str (ch y), V.str (ch z)] := hv
      simp only [List.mem_cons, List.not_mem_nil, or_false] at hv
      rcases hv with h | h | h
      · exact .inr ⟨x, h, ok.1⟩
      · exact .inr ⟨y, h, ok.2.1⟩
      · exact .inr ⟨z, h, ok.2.2⟩
    | hd x y =>
      have hv : v ∈ [V.str (ch x), V.str (ch y)] := hv
      simp only [List.mem_cons, List.not_mem_nil, or_false] at hv
      rcases hv with h | h
      · exact .inr ⟨x, h, ok.1⟩
      · exact .inr ⟨y, h, ok.2⟩
    | tl x y =>
      have hv : v ∈ [V.str (ch x), V.str (ch y)] := hv
      simp only [List.mem_cons, List.not_mem_nil, or_false] at hv
      rcases hv with h | h
      · exact .inr ⟨x, h, ok.1⟩
      · exact .inr ⟨y, h, ok.2⟩
    | prt x =>
      have hv : v ∈ [V.str (ch x)] := hv
      simp only [List.mem_cons, List.not_mem_nil, or_false] at hv
      exact .inr ⟨x, hv, ok⟩
  | _ => cases hv
section
variable {P : Program} {w : World} {K : PySem.W.Frag} {mg : Str → Option Value} {base : Heap}
/-- the letters of a program -/
def letters (lo : Nat) : List Str := [ch lo, ch (lo + 1), ch (lo + 2), ch (lo + 3), ch (lo + 4), ch (lo + 5)]
theorem in_letters {lo c : Nat} (h1 : lo ≤ c) (h2 : c < lo + 6) : ch c ∈ letters lo := by
  obtain ⟨k, rfl⟩ : ∃ k, c = lo + k := ⟨c - lo, by omega⟩
  have hk : k < 6 := by omega
  unfold letters
  match k, hk with
  | 0, _ => simp
  | 1, _ => simp
  | 2, _ => simp
  | 3, _ => simp
  | 4, _ => simp
  | 5, _ => simp
theorem letters_len (lo : Nat) : ∀ y ∈ letters lo, y.length = 1 := by
  intro y hy
  unfold letters at hy
  simp only [List.mem_cons, List.not_mem_nil, or_false] at hy
  rcases hy with h | h | h | h | h | h <;> rw [h] <;> rfl
/-- few texts -/
def Few (lo : Nat) (L : List Str) : Prop := L.Nodup ∧ ∀ y ∈ L, y ∈ letters lo
theorem Few.ins {lo : Nat} {L : List Str} (h : Few lo L) {k : Str} (hk : k ∈ letters lo) : Few lo (insT L k) := by
  unfold insT
  split
  · exact h
  · rename_i n
    refine ⟨?_, fun y hy => ?_⟩
    · rw [List.nodup_append]
      exact ⟨h.1, by simp, fun a ha b hb e => n (by rw [← List.mem_singleton.mp hb, ← e]; exact ha)⟩
    · rcases List.mem_append.mp hy with hy | hy
      · exact h.2 y hy
      · rw [List.mem_singleton.mp hy]; exact hk
theorem Few.len {lo : Nat} {L : List Str} (h : Few lo L) : L.length ≤ 6 := nodup_le (m := letters lo) h.1 h.2
theorem scN_vars : FnScope ["statements", "named", "statement", "word"] ["statements"] (defScope s_variables_of) := ⟨rfl, rfl, rfl, by decide +kernel, rfl, by decide +kernel, by decide +kernel⟩
theorem ok_vars (T : Tx K w mg) : FnOk P w K mg base CX0 1 T.f_variables_of T.d_variables_of ["statements"] (spVars K) := by
  refine T.variables_of.F.ok scN_vars (fun vs H Q E h => ?_) (fun cdv A outer s H vs Q E hr h => ?_)
  · obtain ⟨t, xs, ss, lo, rfl, _⟩ := h
    rfl
  · obtain ⟨t, xs, ss, lo, rfl, ht, hx, hz, lo1, lo2, okl, q⟩ := h
    refine ⟨_, (pss_cons (ps_setSc2 (i := 1) (own := [("statement", 2), ("word", 3)]) (vs1 := [3]) (g := gName 2) (tt := tYes) (g1 := gName 3) rfl scN_vars.nd rfl rfl (swaps_set rfl rfl rfl (by decide +kernel)) (pi_tup (pv 0)) (blkOk_by (own := [("statement", 2), ("word", 3)]) (N := ["statements", "named", "statement", "word"]) (sc := defScope s_variables_of) (by decide +kernel)) (by decide)
        (fun _ _ _ _ _ => pg_name (i := 2) scN_vars.nd rfl (.inl rfl) (.inr rfl)) (fun _ _ _ _ _ => pts_nil) (fun _ _ _ _ _ => (show PI _ _ _ (iTup K _) from pi_tup (pe_slice (show SlR _ (rSlT K) from sl_tup) (pv 2) (po_some pe_int) po_none))) (fun _ _ _ _ _ => pg_name (i := 3) scN_vars.nd rfl (.inl rfl) (.inr rfl))
        (fun _ _ _ _ _ => pts_one (pt_val (pe_callB (show CallR _ (.builtin "isinstance") (rIsi K) from call_isi) (by rfl) T.B.isinstance (by decide +kernel) (pa_cons (pv 3) (pa_cons (pe_bltn (by rfl) T.B.str (by decide +kernel) (v := .ty "str") rfl) pa_nil))))) (fun _ _ _ _ _ => pv 3))
      (pss_one (ps_ret (pe_join pe_str (pe_callB (cr_sortT rfl) (by rfl) T.B.sorted (by decide +kernel) (pa_cons (pv 1) pa_nil)))))), ?_⟩
    refine ⟨_, rfl, t, rfl, ⟨_, ht⟩, fun D hD => ?_⟩
    refine ⟨fun i m H' => m = xs.length - i ∧ i ≤ xs.length ∧ Same H H' ∧ H' D = some (SetTO w (namesL (ss.take i)) D) ∧ Few lo (namesL (ss.take i)), ⟨xs.length, by simp, Nat.zero_le _, same_new hD _, upd_same, ⟨by simp [namesL], by simp [namesL]⟩⟩, ?_⟩
    rintro i m H1 ⟨rfl, hi, sm, hD1, few1⟩
    have ht1 : SqT K H1 t xs := (Same.keepT sm) _ _ ht
    by_cases hlt : i < xs.length
    · refine .inr ⟨⟨xs, xs[i], ht1, List.getElem?_eq_getElem hlt⟩, fun H' => Same H H' ∧ H' D = some (SetTO w (namesL (ss.take (i + 1))) D) ∧ Few lo (namesL (ss.take (i + 1))), fun H' hh => ⟨xs.length - (i + 1), by omega, rfl, hlt, hh.1, hh.2.1, hh.2.2⟩, ?_⟩
      rintro x H2 ⟨rfl, y⟩
      have ex := y xs ht1
      have hil : i < ss.length := by rw [← hx.1]; exact hlt
      have si : ss[i]? = some ss[i] := List.getElem?_eq_getElem hil
      obtain ⟨a, ha1, ha2⟩ := hx.2 i _ si
      rw [ha1] at ex
      cases ex
      have ha3 : SqT K H2 a (ss[i]).vals := (Same.keepT sm) _ _ ha2
      obtain ⟨r, er⟩ := vals_word ss[i]
      have tail := vals_tail (lo := lo) ss[i] (fun l e => okl l (by rw [← e]; exact List.getElem_mem hil))
      refine ⟨rfl, _, rfl, _, rfl, a, _, rfl, ha3, ?_, fun p hp => ?_⟩
      · rw [er]
        intro z
        have z1 := z.1
        rw [show (1 : Int) = ((1 : Nat) : Int) from rfl, HT.sIx_nat] at z1
        simp at z1
      have ecut : cutV (ss[i]).vals (some 1) none = (ss[i]).vals.drop 1 := by
        show List.take _ (List.drop _ (ss[i]).vals) = _
        rw [show (1 : Int) = ((1 : Nat) : Int) from rfl, HT.sIx_nat, er]
        have e1 : min 1 (V.str (ss[i]).word :: r).length = 1 := by simp
        rw [e1, List.take_of_length_le (by simp [HT.sIx])]
      have enx : namesL (ss.take (i + 1)) = growL (namesL (ss.take i)) ((ss[i]).vals.drop 1) := by rw [take_snoc si, namesL_snoc]
      rw [ecut]
      rw [enx]
      generalize (ss[i]).vals.drop 1 = ys at tail ⊢
      generalize namesL (ss.take i) = L0 at hD1 few1 ⊢
      have sp := same_new hp (.tup ys)
      have tp : SqT K (upd H2 p (.tup ys)) p ys := SqT.of upd_same
      have hD2 := sp _ _ hD1
      generalize upd H2 p (.tup ys) = H3 at sp tp hD2 ⊢
      refine ⟨p, rfl, ⟨_, tp⟩, ?_⟩
      refine ⟨fun j k H' => k = ys.length - j ∧ j ≤ ys.length ∧ But [D] H3 H' ∧ H' D = some (SetTO w (growL L0 (ys.take j)) D) ∧ Few lo (growL L0 (ys.take j)), ⟨ys.length, by simp, Nat.zero_le _, But.refl _ _, hD2, few1⟩, ?_⟩
      rintro j k H4 ⟨rfl, hj, sm4, hD4, few4⟩
      have tp4 : SqT K H4 p ys := (sm4.keepT fun m hm => by rw [List.mem_singleton.mp hm, hD2]; trivial) _ _ tp
      by_cases hjl : j < ys.length
      · refine .inr ⟨⟨ys, ys[j], tp4, List.getElem?_eq_getElem hjl⟩, fun H' => But [D] H3 H' ∧ H' D = some (SetTO w (growL L0 (ys.take (j + 1))) D) ∧ Few lo (growL L0 (ys.take (j + 1))), fun H' hh => ⟨ys.length - (j + 1), by omega, rfl, hjl, hh.1, hh.2.1, hh.2.2⟩, ?_⟩
        rintro v H5 ⟨rfl, yv⟩
        have ev := yv ys tp4
        rw [take_snoc ev, growL_snoc]
        rcases tail v (List.mem_of_getElem? ev) with ⟨n, rfl⟩ | ⟨c, rfl, c1, c2⟩
        · refine ⟨rfl, _, rfl, _, _, _, _, false, rfl, .ty _, .base (.int n), kit_ty (by decide +kernel), _, rfl, ?_⟩
          exact iteF (A := True) ⟨sm4, hD4, few4⟩
        · refine ⟨rfl, _, rfl, _, _, _, _, true, rfl, .ty _, .base (.str (ch c)), kit_ty (by decide +kernel), _, rfl, ?_⟩
          refine iteT (B := True) ?_
          have fl := few4.len
          exact ⟨_, rfl, ch c, _, rfl, by omega, hD4, sm4.trans (But.upd (by simp) _), upd_same, few4.ins (in_letters c1 c2)⟩
      · have e : j = ys.length := by omega
        subst e
        rw [List.take_length] at hD4 few4
        exact .inl ⟨⟨ys, tp4, Nat.le_refl _⟩, (fun c o hc => sm4 c o ((sm.trans sp) c o hc) (by simp only [List.mem_singleton]; exact ne_of_none hc hD)), hD4, few4⟩
    · have e : i = xs.length := by omega
      subst e
      refine .inl ⟨⟨xs, ht1, Nat.le_refl _⟩, ?_⟩
      have exs : ss.take xs.length = ss := by rw [hx.1, List.take_length]
      rw [exs] at hD1 few1
      have fl := few1.len
      refine ⟨⟨_, rfl⟩, _, rfl, D, namesL ss, rfl, hD1, by omega, fun ys p hy hn hso hp => ?_⟩
      have one : ∀ y ∈ ys, y.length = 1 := fun y hh => letters_len lo y (few1.2 y ((hy y).mp hh))
      have hl := nodup_le (m := namesL ss) hn fun y hh => (hy y).mp hh
      have sum : (ys.map (·.length)).sum ≤ 6 := by
        have := sum_le (ys.map (·.length)) 1 fun x hx => by
          obtain ⟨y, hy2, rfl⟩ := List.mem_map.mp hx
          rw [one y hy2]; exact Nat.le_refl _
        rw [List.length_map] at this
        omega
      have z0 : ("" : Str).length = 0 := by decide +kernel
      have len6 : (Txt.join ("" : Str) ys).length ≤ 6 := by
        rw [TL.join_eq]
        have := StrLaws.join_length_le ("" : Str) ys
        rw [z0] at this
        omega
      exact ⟨_, p, ys, rfl, rfl, .inl (SqL.of upd_same), by rw [z0]; omega, q _ _ (sm.trans (same_new hp _)) len6 ⟨ys, rfl, hy, hn, hso⟩⟩
end
end Kp
end
section
set_option Elab.async false
set_option linter.all false
set_option maxRecDepth 100000
set_option maxHeartbeats 4000000
namespace Kp
open PySem L2

open Ka
theorem vals_tailA (s : Stm) (ok : Stm.okA s) : ∀ v ∈ s.vals.drop 1, (∃ n : Int, v = .int n) ∨ ∃ c, v = .str (ch c) ∧ 97 ≤ c ∧ c < 123 := by
  intro v hv
  cases s with
  | pl l =>
    have ok : Ln.okA l := ok
    cases l with
    | num x n =>
      have hv : v ∈ [V.str (ch x), V.int (n : Nat)] := hv
      simp only [List.mem_cons, List.not_mem_nil, or_false] at hv
      rcases hv with h | h
      · exact .inr ⟨x, h, ok.1⟩
      · exact .inl ⟨_, h⟩
    | copy x y =>
      have hv : v ∈ [V.str (ch x), V.str (ch y)] := hv
      simp only [List.mem_cons, List.not_mem_nil, or_false] at hv
      rcases hv with h | h
      · exact .inr ⟨x, h, ok.1⟩
      · exact .inr ⟨y, h, ok.2⟩
    | pair x y z =>
      have hv : v ∈ [V.str (ch x), V.str (ch y), V.str (ch z)] := hv
      simp only [List.mem_cons, List.not_mem_nil, or_false] at hv
      rcases hv with h | h | h
      · exact .inr ⟨x, h, ok.1⟩
      · exact .inr ⟨y, h, ok.2.1⟩
      · exact .inr ⟨z, h, ok.2.2⟩
    | hd x y =>
      have hv : v ∈ [V.str (ch x), V.str (ch y)] := hv
      simp only [List.mem_cons, List.not_mem_nil, or_false] at hv
      rcases hv with h | h
      · exact .inr ⟨x, h, ok.1⟩
      · exact .inr ⟨y, h, ok.2⟩
    | tl x y =>
      have hv : v ∈ [V.str (ch x), V.str (ch y)] := hv
      simp only [List.mem_cons, List.not_mem_nil, or_false] at hv
      rcases hv with h | h
      · exact .inr ⟨x, h, ok.1⟩
      · exact .inr ⟨y, h, ok.2⟩
    | prt x =>
      have hv : v ∈ [V.str (ch x)] := hv
      simp only [List.mem_cons, List.not_mem_nil, or_false] at hv
      exact .inr ⟨x, hv, ok⟩
  | _ => cases hv
section
variable {P : Program} {w : World} {K : PySem.W.Frag} {mg : Str → Option Value} {base : Heap}
def lettersA : List Str := (List.range 26).map fun i => ch (97 + i)
theorem in_lettersA {c : Nat} (h1 : 97 ≤ c) (h2 : c < 123) : ch c ∈ lettersA := List.mem_map.mpr ⟨c - 97, List.mem_range.mpr (by omega), by rw [show 97 + (c - 97) = c by omega]⟩
theorem lettersA_len : ∀ y ∈ lettersA, y.length = 1 := by
  intro y hy
  obtain ⟨i, _, rfl⟩ := List.mem_map.mp hy
  rfl
def FewA (L : List Str) : Prop := L.Nodup ∧ ∀ y ∈ L, y ∈ lettersA
theorem FewA.ins {L : List Str} (h : FewA L) {k : Str} (hk : k ∈ lettersA) : FewA (insT L k) := by
  unfold insT
  split
  · exact h
  · rename_i n
    refine ⟨?_, fun y hy => ?_⟩
    · rw [List.nodup_append]
      exact ⟨h.1, by simp, fun a ha b hb e => n (by rw [← List.mem_singleton.mp hb, ← e]; exact ha)⟩
    · rcases List.mem_append.mp hy with hy | hy
      · exact h.2 y hy
      · rw [List.mem_singleton.mp hy]; exact hk
theorem FewA.len {L : List Str} (h : FewA L) : L.length ≤ 26 := by have := nodup_le (m := lettersA) h.1 h.2; simpa [lettersA] using this
/-- the names of lines are few letters -/
theorem few_names : ∀ (ss : List Stm), (∀ s ∈ ss, Stm.okA s) → FewA (namesL ss) := by
  have grow : ∀ (vs : List V) (L : List Str), FewA L → (∀ v ∈ vs, (∃ n : Int, v = .int n) ∨ ∃ c, v = .str (ch c) ∧ 97 ≤ c ∧ c < 123) → FewA (growL L vs) := fun vs => by
    induction vs with
    | nil => intro L h _; exact h
    | cons v vs ih =>
      intro L h hv
      rcases hv v List.mem_cons_self with ⟨n, rfl⟩ | ⟨c, rfl, c1, c2⟩
      · exact ih L h fun v hm => hv v (List.mem_cons_of_mem _ hm)
      · exact ih (insT L (ch c)) (h.ins (in_lettersA c1 c2)) fun v hm => hv v (List.mem_cons_of_mem _ hm)
  have all : ∀ (ss : List Stm) (L : List Str), FewA L → (∀ s ∈ ss, Stm.okA s) → FewA (ss.foldl (fun L s => growL L (s.vals.drop 1)) L) := fun ss => by
    induction ss with
    | nil => intro L h _; exact h
    | cons s ss ih => intro L h hs; exact ih _ (grow _ L h (vals_tailA s (hs s List.mem_cons_self))) fun s hm => hs s (List.mem_cons_of_mem _ hm)
  exact fun ss hs => all ss [] ⟨by simp, by simp⟩ hs
def spVarsA (K : PySem.W.Frag) : Sp := fun vs H Q _ => ∃ (t : Addr) (xs : List V) (ss : List Stm), vs = [.ref t] ∧ SqT K H t xs ∧ ToldsAt K H xs ss ∧ ss.length ≤ 400 ∧ (∀ s ∈ ss, Stm.okA s) ∧ ∀ (z : Str) (H' : Hp), Same H H' → z.length = (namesL ss).length → VarZ ss z → Q (.str z) H'
theorem join_nil_len : ∀ {ys : List Str}, (∀ y ∈ ys, y.length = 1) → (PySem.Str.join (⟨#[]⟩ : Str) ys).length = ys.length
  | [], _ => rfl
  | y :: r, h => by
    rw [PyProof.Rows.join_nil_cons, Str.length_append, h y List.mem_cons_self, join_nil_len fun z hz => h z (List.mem_cons_of_mem _ hz), List.length_cons]; omega
theorem sum_ones : ∀ {ys : List Str}, (∀ y ∈ ys, y.length = 1) → (ys.map (·.length)).sum = ys.length
  | [], _ => rfl
  | y :: r, h => by
    rw [List.map_cons, List.sum_cons, h y List.mem_cons_self, sum_ones fun z hz => h z (List.mem_cons_of_mem _ hz), List.length_cons]; omega
theorem ok_varsA (T : Tx K w mg) : FnOk P w K mg base CX0 1 T.f_variables_of T.d_variables_of ["statements"] (spVarsA K) := by
  refine T.variables_of.F.ok scN_vars (fun vs H Q E h => ?_) (fun cdv A outer s H vs Q E hr h => ?_)
  · obtain ⟨t, xs, ss, rfl, _⟩ := h
    rfl
  · obtain ⟨t, xs, ss, rfl, ht, hx, hz, okl, q⟩ := h
    refine ⟨_, (pss_cons (ps_setSc2 (i := 1) (own := [("statement", 2), ("word", 3)]) (vs1 := [3]) (g := gName 2) (tt := tYes) (g1 := gName 3) rfl scN_vars.nd rfl rfl (swaps_set rfl rfl rfl (by decide +kernel)) (pi_tup (pv 0)) (blkOk_by (own := [("statement", 2), ("word", 3)]) (N := ["statements", "named", "statement", "word"]) (sc := defScope s_variables_of) (by decide +kernel)) (by decide)
        (fun _ _ _ _ _ => pg_name (i := 2) scN_vars.nd rfl (.inl rfl) (.inr rfl)) (fun _ _ _ _ _ => pts_nil) (fun _ _ _ _ _ => (show PI _ _ _ (iTup K _) from pi_tup (pe_slice (show SlR _ (rSlT K) from sl_tup) (pv 2) (po_some pe_int) po_none))) (fun _ _ _ _ _ => pg_name (i := 3) scN_vars.nd rfl (.inl rfl) (.inr rfl))
        (fun _ _ _ _ _ => pts_one (pt_val (pe_callB (show CallR _ (.builtin "isinstance") (rIsi K) from call_isi) (by rfl) T.B.isinstance (by decide +kernel) (pa_cons (pv 3) (pa_cons (pe_bltn (by rfl) T.B.str (by decide +kernel) (v := .ty "str") rfl) pa_nil))))) (fun _ _ _ _ _ => pv 3))
      (pss_one (ps_ret (pe_join pe_str (pe_callB (cr_sortT rfl) (by rfl) T.B.sorted (by decide +kernel) (pa_cons (pv 1) pa_nil)))))), ?_⟩
    refine ⟨_, rfl, t, rfl, ⟨_, ht⟩, fun D hD => ?_⟩
    refine ⟨fun i m H' => m = xs.length - i ∧ i ≤ xs.length ∧ Same H H' ∧ H' D = some (SetTO w (namesL (ss.take i)) D) ∧ FewA (namesL (ss.take i)), ⟨xs.length, by simp, Nat.zero_le _, same_new hD _, upd_same, ⟨by simp [namesL], by simp [namesL]⟩⟩, ?_⟩
    rintro i m H1 ⟨rfl, hi, sm, hD1, few1⟩
    have ht1 : SqT K H1 t xs := (Same.keepT sm) _ _ ht
    by_cases hlt : i < xs.length
    · refine .inr ⟨⟨xs, xs[i], ht1, List.getElem?_eq_getElem hlt⟩, fun H' => Same H H' ∧ H' D = some (SetTO w (namesL (ss.take (i + 1))) D) ∧ FewA (namesL (ss.take (i + 1))), fun H' hh => ⟨xs.length - (i + 1), by omega, rfl, hlt, hh.1, hh.2.1, hh.2.2⟩, ?_⟩
      rintro x H2 ⟨rfl, y⟩
      have ex := y xs ht1
      have hil : i < ss.length := by rw [← hx.1]; exact hlt
      have si : ss[i]? = some ss[i] := List.getElem?_eq_getElem hil
      obtain ⟨a, ha1, ha2⟩ := hx.2 i _ si
      rw [ha1] at ex
      cases ex
      have ha3 : SqT K H2 a (ss[i]).vals := (Same.keepT sm) _ _ ha2
      obtain ⟨r, er⟩ := vals_word ss[i]
      have tail := vals_tailA ss[i] (okl _ (List.getElem_mem hil))
      refine ⟨rfl, _, rfl, _, rfl, a, _, rfl, ha3, ?_, fun p hp => ?_⟩
      · rw [er]
        intro z
        have z1 := z.1
        rw [show (1 : Int) = ((1 : Nat) : Int) from rfl, HT.sIx_nat] at z1
        simp at z1
      have ecut : cutV (ss[i]).vals (some 1) none = (ss[i]).vals.drop 1 := by
        show List.take _ (List.drop _ (ss[i]).vals) = _
        rw [show (1 : Int) = ((1 : Nat) : Int) from rfl, HT.sIx_nat, er]
        have e1 : min 1 (V.str (ss[i]).word :: r).length = 1 := by simp
        rw [e1, List.take_of_length_le (by simp [HT.sIx])]
      have enx : namesL (ss.take (i + 1)) = growL (namesL (ss.take i)) ((ss[i]).vals.drop 1) := by rw [take_snoc si, namesL_snoc]
      rw [ecut]
      rw [enx]
      generalize (ss[i]).vals.drop 1 = ys at tail ⊢
      generalize namesL (ss.take i) = L0 at hD1 few1 ⊢
      have sp := same_new hp (.tup ys)
      have tp : SqT K (upd H2 p (.tup ys)) p ys := SqT.of upd_same
      have hD2 := sp _ _ hD1
      generalize upd H2 p (.tup ys) = H3 at sp tp hD2 ⊢
      refine ⟨p, rfl, ⟨_, tp⟩, ?_⟩
      refine ⟨fun j k H' => k = ys.length - j ∧ j ≤ ys.length ∧ But [D] H3 H' ∧ H' D = some (SetTO w (growL L0 (ys.take j)) D) ∧ FewA (growL L0 (ys.take j)), ⟨ys.length, by simp, Nat.zero_le _, But.refl _ _, hD2, few1⟩, ?_⟩
      rintro j k H4 ⟨rfl, hj, sm4, hD4, few4⟩
      have tp4 : SqT K H4 p ys := (sm4.keepT fun m hm => by rw [List.mem_singleton.mp hm, hD2]; trivial) _ _ tp
      by_cases hjl : j < ys.length
      · refine .inr ⟨⟨ys, ys[j], tp4, List.getElem?_eq_getElem hjl⟩, fun H' => But [D] H3 H' ∧ H' D = some (SetTO w (growL L0 (ys.take (j + 1))) D) ∧ FewA (growL L0 (ys.take (j + 1))), fun H' hh => ⟨ys.length - (j + 1), by omega, rfl, hjl, hh.1, hh.2.1, hh.2.2⟩, ?_⟩
        rintro v H5 ⟨rfl, yv⟩
        have ev := yv ys tp4
        rw [take_snoc ev, growL_snoc]
        rcases tail v (List.mem_of_getElem? ev) with ⟨n, rfl⟩ | ⟨c, rfl, c1, c2⟩
        · refine ⟨rfl, _, rfl, _, _, _, _, false, rfl, .ty _, .base (.int n), kit_ty (by decide +kernel), _, rfl, ?_⟩
          exact iteF (A := True) ⟨sm4, hD4, few4⟩
        · refine ⟨rfl, _, rfl, _, _, _, _, true, rfl, .ty _, .base (.str (ch c)), kit_ty (by decide +kernel), _, rfl, ?_⟩
          refine iteT (B := True) ?_
          have fl := few4.len
          exact ⟨_, rfl, ch c, _, rfl, by omega, hD4, sm4.trans (But.upd (by simp) _), upd_same, few4.ins (in_lettersA c1 c2)⟩
      · have e : j = ys.length := by omega
        subst e
        rw [List.take_length] at hD4 few4
        exact .inl ⟨⟨ys, tp4, Nat.le_refl _⟩, (fun c o hc => sm4 c o ((sm.trans sp) c o hc) (by simp only [List.mem_singleton]; exact ne_of_none hc hD)), hD4, few4⟩
    · have e : i = xs.length := by omega
      subst e
      refine .inl ⟨⟨xs, ht1, Nat.le_refl _⟩, ?_⟩
      have exs : ss.take xs.length = ss := by rw [hx.1, List.take_length]
      rw [exs] at hD1 few1
      have fl := few1.len
      refine ⟨⟨_, rfl⟩, _, rfl, D, namesL ss, rfl, hD1, by omega, fun ys p hy hn hso hp => ?_⟩
      have one : ∀ y ∈ ys, y.length = 1 := fun y hh => lettersA_len y (few1.2 y ((hy y).mp hh))
      have hl := nodup_le (m := namesL ss) hn fun y hh => (hy y).mp hh
      have hl2 := nodup_le (m := ys) few1.1 fun y hh => (hy y).mpr hh
      have sum1 := sum_ones one
      have z0 : ("" : Str).length = 0 := by decide +kernel
      have lenJ : (Txt.join ("" : Str) ys).length = (namesL ss).length := by
        rw [TL.join_eq, show ("" : Str) = (⟨#[]⟩ : Str) from rfl, join_nil_len one]; omega
      exact ⟨_, p, ys, rfl, rfl, .inl (SqL.of upd_same), by rw [z0]; omega, q _ _ (sm.trans (same_new hp _)) lenJ ⟨ys, rfl, hy, hn, hso⟩⟩
end
end Kp
end
section
set_option Elab.async false
set_option linter.all false
set_option maxRecDepth 100000
set_option maxHeartbeats 4000000
namespace Kp
open PySem L2

open Ka Kd_
/-! Program(text) for any lines. -/
theorem lim_none {n m : Nat} {ds : List Nat} (h : limOf n ds m = none) : n ≤ 80 ∧ (∀ x ∈ ds, x ≤ 5) ∧ m ≤ 6 := by
  unfold limOf at h
  split at h
  · cases h
  split at h
  · cases h
  split at h
  · cases h
  rename_i h1 h2 h3
  refine ⟨by omega, fun x hx => ?_, by omega⟩
  by_cases h5 : 5 < x
  · exact absurd (List.any_eq_true.mpr ⟨x, hx, decide_eq_true h5⟩) h2
  · omega
theorem limP_none {CB : Addr} {H : Hp} {E : XK} {ok : Prop} (h : ok) : limP CB H E ok none := h
theorem deps_high (T : Ka.Tree) : ∀ (d m : Nat), (∀ x ∈ T.deps d, x ≤ m) → T.high = 0 ∨ d + T.high ≤ m + 1 := by
  induction T with
  | nil => intro d m _; exact .inl rfl
  | ln l r ih => intro d m h; exact ih d m h
  | blk w b r ihb ihr =>
    intro d m h
    have h0 := h d List.mem_cons_self
    have hb := ihb (d + 1) m fun x hx => h x (List.mem_cons_of_mem _ (List.mem_append_left _ hx))
    have hr := ihr d m fun x hx => h x (List.mem_cons_of_mem _ (List.mem_append_right _ hx))
    refine .inr ?_
    show d + max (1 + b.high) r.high ≤ m + 1
    omega
  | br a b r iha ihb ihr =>
    intro d m h
    have h0 := h d List.mem_cons_self
    have ha := iha (d + 1) m fun x hx => h x (List.mem_cons_of_mem _ (List.mem_append_left _ hx))
    have hb := ihb (d + 1) m fun x hx => h x (List.mem_cons_of_mem _ (List.mem_append_right _ (List.mem_cons_of_mem _ (List.mem_append_left _ hx))))
    have hr := ihr d m fun x hx => h x (List.mem_cons_of_mem _ (List.mem_append_right _ (List.mem_cons_of_mem _ (List.mem_append_right _ hx))))
    refine .inr ?_
    show d + max (max (1 + a.high) (1 + b.high)) r.high ≤ m + 1
    omega
theorem high_of {T : Ka.Tree} (h : ∀ x ∈ (fin_ T).depths, x ≤ 5) : T.high ≤ 5 := by
  have := deps_high T 1 5 fun x hx => h x (List.mem_append_right _ hx)
  omega
theorem outL_told {os : List (Option Stm)} {T : Ka.Tree} (h : outL os = .inr T) : os = T.flat.map some := by
  unfold outL at h
  cases hp : parse 0 ([], .nil) os with
  | inl e => rw [hp] at h; cases h
  | inr s =>
    obtain ⟨fs, U⟩ := s
    rw [hp] at h
    cases fs with
    | cons f fs => cases h
    | nil =>
      cases h
      obtain ⟨ss, e1, e2⟩ := parse_told hp
      have e2 : T.flat = ss := by simpa [flatS, Ka.Tree.flat] using e2
      rw [e1, e2]
theorem outL_tree (T : Ka.Tree) : outL (T.flat.map some) = .inr T := by
  have h := parse_tree T 0 [] .nil []
  rw [List.append_nil] at h
  unfold outL
  rw [h]; rfl
/-- what each row says -/
structure SaysA (zs : List Str) (os : List (Option Stm)) : Prop where
  len : zs.length = os.length
  no : ∀ (i : Nat) (z : Str), zs[i]? = some z → os[i]? = some none → stmN z = true
  yes : ∀ (i : Nat) (z : Str) (s : Stm), zs[i]? = some z → os[i]? = some (some s) → z = s.txt ∧ Stm.okA s
theorem SaysA.tree {zs : List Str} {T : Ka.Tree} (h : SaysA zs (T.flat.map some)) : zs = T.flat.map Stm.txt ∧ ∀ s ∈ T.flat, Stm.okA s := by
  have len := h.len
  rw [List.length_map] at len
  refine ⟨List.ext_getElem? fun i => ?_, fun s hs => ?_⟩
  · by_cases hi : i < T.flat.length
    · have e1 : T.flat[i]? = some T.flat[i] := List.getElem?_eq_getElem hi
      have e2 : zs[i]? = some zs[i] := List.getElem?_eq_getElem (by omega)
      obtain ⟨e3, _⟩ := h.yes i _ _ e2 (by rw [List.getElem?_map, e1]; rfl)
      rw [List.getElem?_map, e1, e2, e3]; rfl
    · rw [List.getElem?_eq_none (by omega), List.getElem?_eq_none (by rw [List.length_map]; omega)]
  · obtain ⟨i, hi⟩ := List.mem_iff_getElem?.mp hs
    have hl := (List.getElem?_eq_some_iff.mp hi).1
    have e2 : zs[i]? = some zs[i] := List.getElem?_eq_getElem (by omega)
    exact (h.yes i _ s e2 (by rw [List.getElem?_map, hi]; rfl)).2
/-- how Program ends -/
def outA (os : List (Option Stm)) : (Option Nat × Nat) ⊕ Ka.Tree := match outL os with
  | .inl (k, r) => .inl (some k, r)
  | .inr T => match limOf T.flat.length (fin_ T).depths (namesL T.flat).length with
    | some r => .inl (none, r)
    | none => .inr T
section
variable {P : Program} {w : World} {K : PySem.W.Frag} {mg : Str → Option Value} {base : Heap}
def progP (CB x PT : Addr) (H : Hp) (E : XK) (ok : Ka.Tree → Prop) : (Option Nat × Nat) ⊕ Ka.Tree → Prop
  | .inr T => ok T
  | .inl (k, r) => ∀ (d : Addr) (H' : Hp), But [x, PT] H H' → GxR.TabG H' PT → H d = none → H' d = some (xdB k (reasonS r)) → E (.ref CB) (some d) H'
def spProgA (K : PySem.W.Frag) (C CB PT : Addr) : Sp := fun vs H Q E => ∃ (x dx : Addr) (os : List (Option Stm)) (ws : List Str), vs = [.ref x, .str (Txt.join ("\n" : Str) ws)] ∧ H x = some (.ins C dx []) ∧ GxR.TabG H PT ∧
  ws.length ≤ 4010 ∧ (∀ z ∈ ws, 10 ∉ z.cps.toList ∧ z.length ≤ 900) ∧ (Txt.join ("\n" : Str) ws).length ≤ 4000 ∧ SaysA (cleanR ws) os ∧ os.length ≤ 400 ∧
  progP CB x PT H E (fun T => ∀ H', But [x, PT] H H' → GxR.TabG H' PT → ProgAt K C H' x T → Q .non H') (outA os)
def spStmC (K : PySem.W.Frag) (PT : Addr) : Sp := fun vs H Q E => spStmA K PT vs H Q E ∨ spStmN PT vs H Q E
theorem ok_stmC {PT f : Addr} {fd : FuncData} {k : Nat} (F : FnOk P w K mg base CX0 k f fd ["line"] (spStmA K PT)) (G : FnOk P w K mg base CX0 k f fd ["line"] (spStmN PT)) : FnOk P w K mg base CX0 k f fd ["line"] (spStmC K PT) :=
  ⟨fun vs H Q E h => h.elim (F.len vs H Q E) (G.len vs H Q E), fun A outer s H args us vs Q E a b c d h => h.elim (F.run A outer s H args us vs Q E a b c d) (G.run A outer s H args us vs Q E a b c d)⟩
theorem clean_le (ws : List Str) : (cleanR ws).length ≤ ws.length := by
  unfold cleanR
  exact Nat.le_trans (List.length_filter_le _ _) (by rw [List.length_map]; exact Nat.le_refl _)
theorem ok_progA {PT : Addr} (hP : P = PySem.Challenge.pw_scopefree_k02_what_does_not_fit) (T : Tx K w mg) (G1 : FnOk P w K mg base CX0 3 T.f_statement_of T.d_statement_of ["line"] (spStmA K PT)) (G2 : FnOk P w K mg base CX0 3 T.f_statement_of T.d_statement_of ["line"] (spStmN PT)) : FnOk P w K mg base (L2.CX P w) 4 T.f_Program_init T.d_Program_init ["self", "text"] (spProgA K T.C_Program T.C_BadProgram PT) := by
  have G_statement_of := ok_stmC G1 G2
  have G_variables_of := ok_varsA (P := P) (base := base) T
  have G_lines_of := ok_linesW (P := P) (base := base) T
  have G_layA := ok_layA (P := P) (base := base) hP T
  have G_limA := ok_limA (P := P) (base := base) hP T
  have G_Layout_line_depth := ok_ld (P := P) (base := base) T
  have G_edges_of := ok_edgesof (P := P) (base := base) T
  have G_followers_of := ok_follow (P := P) (base := base) T
  have G_Program_scopes_around := ok_sa (P := P) (base := base) T
  refine T.Program_init.F.okX scN_prog (fun vs H Q E h => ?_) (fun cdv A outer s H vs Q E hr h => ?_)
  · obtain ⟨x, dx, os, ws, rfl, _⟩ := h
    rfl
  · obtain ⟨x, dx, os, ws, rfl, hx, hP, wl, hz, hl4, R, o4, q⟩ := h
    have hr1 := hr.mono (by decide : 1 ≤ 3)
    have hu := hu_of hr
    refine ⟨_, (pss_cons (ps_if (pt_cmpR op_gt (pe_callB call_len_str (by rfl) T.B.len PySem.boot_len (pa_cons (pv 1) pa_nil)) (pe_glob (v := .int 4000) rfl T.k_MOST_CHARACTERS.choose_spec ⟨_, rfl⟩) (nomark _)) (pss_one ps_never) pss_nil)
        (pss_cons (ps_fld (pv 0) (pe_call G_lines_of hr1 (by rfl) T.lines_of.g T.lines_of.F.kp T.lines_of.b .nil pass0 (pa_cons (pv 1) pa_nil)) rfl)
        (pss_cons (ps_fld (pv 0) (pe_callTy call_tuple_of (by rfl) T.B.tuple (by decide +kernel) (pa_cons (pe_lc (own := [("line", 3)]) (g := gName 3) (tt := tYes) rfl scN_prog.nd (pi_tup (pe_fld (pv 0) rfl)) (blkOk_by (own := [("line", 3)]) (N := ["self", "text", "layout", "line", "at", "kind", "scope", "told"]) (sc := defScope s_Program_init) (by decide +kernel)) (fun _ _ _ _ _ => (pg_name (i := 3) scN_prog.nd rfl (.inl rfl))) (fun _ _ _ _ _ => pts_nil) (fun _ _ _ _ _ => (pe_call G_statement_of hr (by rfl) T.statement_of.g T.statement_of.F.kp T.statement_of.b .nil pass0 (pa_cons (pv 3) pa_nil)))) pa_nil)) rfl)
        (pss_cons (ps_set (i := 2) scN_prog.nd rfl (.inr rfl) (pe_callS G_layA hr (by rfl) T.layout_of.g T.layout_of.F.kp T.layout_of.b (fun σ => passAt (takes_of rfl rfl rfl rfl) σ) (pa_cons (pe_fld (pv 0) rfl) pa_nil)))
        (pss_cons (ps_fld (pv 0) (pe_call G_variables_of hr1 (by rfl) T.variables_of.g T.variables_of.F.kp T.variables_of.b .nil pass0 (pa_cons (pe_fld (pv 0) rfl) pa_nil)) rfl)
        (pss_cons (ps_expr (pe_callS G_limA hr (by rfl) T.check_limits.g T.check_limits.F.kp T.check_limits.b (fun σ => passAt (takes_of rfl rfl rfl rfl) σ) (pa_cons (pe_fld (pv 0) rfl) (pa_cons (pe_fld (pv 2) rfl) (pa_cons (pe_fld (pv 0) rfl) pa_nil)))))
        (pss_cons (ps_fld (pv 0) (pe_callTy call_tuple_of (by rfl) T.B.tuple (by decide +kernel) (pa_cons (pe_lc (own := [("at", 4)]) (g := gName 4) (tt := tYes) rfl scN_prog.nd (pi_range1 rfl T.B.range (pa_cons (pe_callB call_len_seq (by rfl) T.B.len PySem.boot_len (pa_cons (pe_fld (pv 0) rfl) pa_nil)) pa_nil)) (blkOk_by (own := [("at", 4)]) (N := ["self", "text", "layout", "line", "at", "kind", "scope", "told"]) (sc := defScope s_Program_init) (by decide +kernel)) (fun _ _ _ _ _ => (pg_name (i := 4) scN_prog.nd rfl (.inl rfl))) (fun _ _ _ _ _ => pts_nil) (fun _ _ _ _ _ => (pe_meth (pv 2) T.cl_Layout T.Layout_line_depth.m G_Layout_line_depth hr1 T.Layout_line_depth.b .nil pass0 (pa_cons (pv 4) pa_nil)))) pa_nil)) rfl)
        (pss_cons (ps_fld (pv 0) (pe_callTy call_tuple_of (by rfl) T.B.tuple (by decide +kernel) (pa_cons (pe_fld (pv 2) rfl) pa_nil)) rfl)
        (pss_cons (ps_fld (pv 0) (pe_callTy call_tuple_of (by rfl) T.B.tuple (by decide +kernel) (pa_cons (pe_fld (pv 2) rfl) pa_nil)) rfl)
        (pss_cons (ps_fld (pv 0) (pe_callTy call_tuple_of (by rfl) T.B.tuple (by decide +kernel) (pa_cons (pe_lc (own := [("at", 4), ("kind", 5)]) (g := gTup K 2 (gCons (gName 4) (gCons (gName 5) gNil))) rfl scN_prog.nd (pi_enum (by rfl) T.B.enumerate (pa_cons (pe_fld (pv 2) rfl) pa_nil)) (blkOk_by (own := [("at", 4), ("kind", 5)]) (N := ["self", "text", "layout", "line", "at", "kind", "scope", "told"]) (sc := defScope s_Program_init) (by decide +kernel)) (fun _ _ _ _ _ => (pg_tup rfl (pgs_cons (pg_name (i := 4) scN_prog.nd rfl (.inl rfl) (.inr rfl)) (pgs_cons (pg_name (i := 5) scN_prog.nd rfl (.inl rfl) (.inr rfl)) pgs_nil)))) (fun _ _ _ _ _ => pts_one (pt_cmpR op_eq (pv 5) pe_str (nomark _))) (fun _ _ _ _ _ => (pv 4))) pa_nil)) rfl)
        (pss_cons (ps_fld (pv 0) (pe_callTy call_tuple_of (by rfl) T.B.tuple (by decide +kernel) (pa_cons (pe_fld (pv 2) rfl) pa_nil)) rfl)
        (pss_cons (ps_fld (pv 0) (pe_callTy call_tuple_of (by rfl) T.B.tuple (by decide +kernel) (pa_cons (pe_lc (own := [("scope", 6)]) (g := gName 6) (tt := tYes) rfl scN_prog.nd (pi_tup (pe_fld (pv 0) rfl)) (blkOk_by (own := [("scope", 6)]) (N := ["self", "text", "layout", "line", "at", "kind", "scope", "told"]) (sc := defScope s_Program_init) (by decide +kernel)) (fun _ _ _ _ _ => (pg_name (i := 6) scN_prog.nd rfl (.inl rfl))) (fun _ _ _ _ _ => pts_nil) (fun _ _ _ _ _ => (pe_ix (show IxR _ (rIxT K) from ix_tup) (show PE _ _ (tFld K _ _) from pe_fld (pv 0) rfl) (pv 6) (fun _ _ => rfl)))) pa_nil)) rfl)
        (pss_cons (ps_fld (pv 0) (pe_call G_edges_of hr (by rfl) T.edges_of.g T.edges_of.F.kp T.edges_of.b .nil pass0 (pa_cons (pe_fld (pv 0) rfl) (pa_cons (pe_fld (pv 0) rfl) (pa_cons (pv 2) pa_nil)))) rfl)
        (pss_cons (ps_fld (pv 0) (pe_call G_followers_of hr1 (by rfl) T.followers_of.g T.followers_of.F.kp T.followers_of.b .nil pass0 (pa_cons (pe_fld (pv 0) rfl) (pa_cons (pe_callB call_len_seq (by rfl) T.B.len PySem.boot_len (pa_cons (pe_fld (pv 0) rfl) pa_nil)) pa_nil))) rfl)
        (pss_cons (ps_fld (pv 0) (pe_callTy call_tuple_of (by rfl) T.B.tuple (by decide +kernel) (pa_cons (pe_lc (own := [("at", 4), ("told", 7)]) (g := gTup K 2 (gCons (gName 4) (gCons (gName 7) gNil))) rfl scN_prog.nd (pi_enumT (by rfl) T.B.enumerate (pa_cons (pe_fld (pv 0) rfl) pa_nil)) (blkOk_by (own := [("at", 4), ("told", 7)]) (N := ["self", "text", "layout", "line", "at", "kind", "scope", "told"]) (sc := defScope s_Program_init) (by decide +kernel)) (fun _ _ _ _ _ => (pg_tup rfl (pgs_cons (pg_name (i := 4) scN_prog.nd rfl (.inl rfl) (.inr rfl)) (pgs_cons (pg_name (i := 7) scN_prog.nd rfl (.inl rfl) (.inr rfl)) pgs_nil)))) (fun _ _ _ _ _ => pts_one (pt_cmpR op_eq (pe_ix (show IxR _ (rIxT K) from ix_tup) (pv 7) pe_int (fun _ _ => rfl)) pe_str (nomark _))) (fun _ _ _ _ _ => (pv 4))) pa_nil)) rfl)
        (pss_one (ps_fld (pv 0) (pe_callTy call_tuple_of (by rfl) T.B.tuple (by decide +kernel) (pa_cons (pe_lc (own := [("at", 4)]) (g := gName 4) (tt := tYes) rfl scN_prog.nd (pi_tup (pe_fld (pv 0) rfl)) (blkOk_by (own := [("at", 4)]) (N := ["self", "text", "layout", "line", "at", "kind", "scope", "told"]) (sc := defScope s_Program_init) (by decide +kernel)) (fun _ _ _ _ _ => (pg_name (i := 4) scN_prog.nd rfl (.inl rfl))) (fun _ _ _ _ _ => pts_nil) (fun _ _ _ _ _ => (pe_meth (pv 0) T.cl_Program T.Program_scopes_around.m G_Program_scopes_around hr1 T.Program_scopes_around.b .nil pass0 (pa_cons (pe_ix (show IxR _ (rIxT K) from ix_tup) (show PE _ _ (tFld K _ _) from pe_fld (pv 0) rfl) (pv 4) (fun _ _ => rfl)) pa_nil)))) pa_nil)) rfl))))))))))))))))), ?_⟩
    have P0 : PSt T.C_Program x dx PT H H 0 [] := ⟨hx, rfl, But.refl _ _, hP⟩
    -- len(text)
    refine ⟨_, rfl, _, rfl, by have : (4002 : Nat) ≤ sizeLine := by decide +kernel
                               omega, _, _, rfl, rfl, _, rfl, ?_⟩
    rw [decide_eq_false (by omega)]
    refine iteF (A := True) ?_
    -- lines
    refine ⟨_, rfl, ws, rfl, wl, hz, hl4, fun t1 H1 s1 f1 e1 => ?_⟩
    have cz : (cleanR ws).length ≤ 400 := by rw [R.len]; exact o4
    generalize cleanR ws = zs at R e1 cz
    obtain ⟨fs, o1, z1, P1, b1⟩ := (P0.same s1).set (k := "lines") (v := .ref t1) rfl
    refine ⟨_, rfl, x, _, dx, fs, rfl, o1, T.cl_Program, T.n_Program_lines, z1, ?_⟩
    have q1 : SqT K (upd H1 x (.ins T.C_Program dx (putF "lines" (.ref t1) fs))) t1 (zs.map V.str) := (P0.same s1).sq (but_x b1) (SqT.of e1)
    generalize upd H1 x (.ins T.C_Program dx (putF "lines" (.ref t1) fs)) = H2 at P1 b1 q1 ⊢
    clear b1 o1 z1 e1 f1 s1 fs P0
    have zl := R.len
    -- statements
    refine ⟨_, rfl, x, _, dx, _, _, rfl, P1.o, T.cl_Program, T.n_Program_lines, P1.get 0 rfl rfl, t1, rfl, ⟨_, q1⟩, fun D hD => ?_⟩
    refine lc_tup (xs := zs.map V.str) (fun i H' => But [PT] H2 H' ∧ GxR.TabG H' PT ∧ ∃ ys, H' D = some (.lst ys) ∧ ToldA K H' ys (os.take i)) ⟨But.new hD _, ?_, [], upd_same, ⟨by simp, by simp, by simp⟩⟩ ?_ ?_ ?_
    · obtain ⟨ps, q, r⟩ := P1.tb
      exact ⟨ps, by rw [upd_ne (ne_of_none q hD)]; exact q, r⟩
    · rintro i H' _ ⟨b, _, _⟩
      exact P1.sq (but_pt b) q1
    · rintro i y H' hy ⟨b, tb, ys, hys, td⟩
      rw [List.getElem?_map] at hy
      obtain ⟨z, hzi, rfl⟩ := Option.map_eq_some_iff.mp hy
      have hi : i < zs.length := (List.getElem?_eq_some_iff.mp hzi).1
      have nD : D ≠ PT := fun z => by obtain ⟨ps, q, _⟩ := tb; rw [← z, hys] at q; cases q
      have eo : os[i]? = some os[i] := List.getElem?_eq_getElem (by omega)
      have len := td.len
      rw [List.length_take, Nat.min_eq_left (by omega)] at len
      have app : ∀ (v : V) (H3 : Hp), But [PT] H' H3 → GxR.TabG H3 PT → (os[i] = none → v = .non) → (∀ s, os[i] = some s → ∃ a, v = .ref a ∧ SqT K H3 a s.vals) → ∃ acc, H3 D = some (.lst acc) ∧ acc.length < sizeLine ∧ But [PT] H2 (upd H3 D (.lst (acc ++ [v]))) ∧ GxR.TabG (upd H3 D (.lst (acc ++ [v]))) PT ∧
          ∃ ys, (upd H3 D (.lst (acc ++ [v]))) D = some (.lst ys) ∧ ToldA K (upd H3 D (.lst (acc ++ [v]))) ys (os.take (i + 1)) := fun v H3 b3 tb3 v1 v2 => by
        have hys3 := b3 _ _ hys (by simpa using nD)
        have kD : KeepT K H3 (upd H3 D (.lst (ys ++ [v]))) := (But.upd (ms := [D]) (by simp) _).keepT fun m hm => by rw [List.mem_singleton.mp hm, hys3]; trivial
        have td3 := (td.keep (TabG.keep tb b3)).keep kD
        refine ⟨ys, hys3, by rw [len]; exact small1000 (by omega), ?_, ?_, ys ++ [v], upd_same, ?_⟩
        · intro c o hc hn
          have hne : c ≠ D := ne_of_none hc hD
          rw [upd_ne hne]; exact b3 _ _ (b _ _ hc hn) hn
        · obtain ⟨ps, q, r⟩ := tb3
          exact ⟨ps, by rw [upd_ne (fun z => nD z.symm)]; exact q, r⟩
        · have ez : (os.take i).length = i := by rw [List.length_take]; omega
          rw [take_snoc eo]
          refine ⟨by rw [List.length_append, List.length_append, len, ez]; rfl, fun j hj => ?_, fun j s hj => ?_⟩
          · by_cases hji : j < i
            · rw [List.getElem?_append_left (by omega)] at hj
              rw [List.getElem?_append_left (by omega)]; exact td3.no j hj
            · rw [List.getElem?_append_right (by omega), ez] at hj
              have hj0 : j - i = 0 := by
                have := (List.getElem?_eq_some_iff.mp hj).1
                simp at this; omega
              rw [hj0] at hj
              have hj : os[i] = none := Option.some.inj hj
              rw [List.getElem?_append_right (by omega), len, hj0, v1 hj]; rfl
          · by_cases hji : j < i
            · rw [List.getElem?_append_left (by omega)] at hj
              obtain ⟨a, h1, h2⟩ := td3.yes j s hj
              exact ⟨a, by rw [List.getElem?_append_left (by omega)]; exact h1, h2⟩
            · rw [List.getElem?_append_right (by omega), ez] at hj
              have hj0 : j - i = 0 := by
                have := (List.getElem?_eq_some_iff.mp hj).1
                simp at this; omega
              rw [hj0] at hj
              have hj : os[i] = some s := Option.some.inj hj
              obtain ⟨a, rfl, h2⟩ := v2 s hj
              exact ⟨a, by rw [List.getElem?_append_right (by omega), len, hj0]; rfl, kD _ _ h2⟩
      refine ⟨rfl, _, rfl, ?_⟩
      cases ho : os[i] with
      | none =>
        rw [ho] at eo app
        exact .inr ⟨z, rfl, R.no i z hzi eo, tb, fun H3 b3 tb3 => app .non H3 b3 tb3 (fun _ => rfl) (fun s h => by cases h)⟩
      | some st =>
        rw [ho] at eo app
        obtain ⟨rfl, hok⟩ := R.yes i z st hzi eo
        exact .inl ⟨st, rfl, hok, tb, fun a H3 b3 tb3 sq3 => app (.ref a) H3 b3 tb3 (fun h => by cases h) (fun s h => by cases h; exact ⟨a, rfl, sq3⟩)⟩
    rintro H3 ⟨b3, tb3, ys, hys, td⟩
    rw [List.length_map, zl, List.take_length] at td
    refine ⟨D, ys, rfl, .inl ⟨SqL.of hys, fun t2 ht2 => ?_⟩⟩
    have P2 := (P1.step b3 tb3).same (same_new ht2 (.tup ys))
    have b4 : But [PT] H2 (upd H3 t2 (.tup ys)) := b3.trans (But.same (same_new ht2 _) _)
    have q2 := P1.sq (but_pt b4) q1
    have l2 := td.keep (Same.keepT (same_new ht2 (.tup ys)))
    have e2 : (upd H3 t2 (.tup ys)) t2 = some (.tup ys) := upd_same
    generalize upd H3 t2 (.tup ys) = H4 at P2 b4 q2 l2 e2 ⊢
    have hx0 : H x ≠ none := by rw [hx]; intro z; cases z
    -- self.statements =
    obtain ⟨fs, o1, z1, P3, b5⟩ := P2.set (k := "statements") (v := .ref t2) rfl
    refine ⟨_, rfl, x, _, dx, fs, rfl, o1, T.cl_Program, T.n_Program_statements, z1, ?_⟩
    have q3 := P2.sq (but_x b5) q2
    have l3 : ToldA K (upd H4 x (.ins T.C_Program dx (putF "statements" (.ref t2) fs))) ys os := ⟨l2.len, l2.no, fun i s hs => by obtain ⟨a, h1, h2⟩ := l2.yes i s hs; exact ⟨a, h1, P2.sq (but_x b5) h2⟩⟩
    have e3 : SqT K (upd H4 x (.ins T.C_Program dx (putF "statements" (.ref t2) fs))) t2 ys := P2.sq (but_x b5) (SqT.of e2)
    generalize upd H4 x (.ins T.C_Program dx (putF "statements" (.ref t2) fs)) = H5 at P3 q3 l3 e3 ⊢
    clear b5 o1 z1 e2 l2 q2 P2 b4 hys tb3 b3 q1 P1 td
    -- layout
    refine ⟨_, rfl, x, _, dx, _, _, rfl, P3.o, T.cl_Program, T.n_Program_statements, P3.get 1 rfl rfl, t2, ys, os, rfl, e3, l3, by omega, ?_⟩
    cases hO : outL os with
    | inl e =>
      obtain ⟨k, r⟩ := e
      have eO : outA os = .inl (some k, r) := by unfold outA; rw [hO]
      rw [eO] at q
      intro d H6 s6 hd ed
      have P4 := P3.same s6
      exact q d H6 P4.b P4.tb (by
        cases hh : H d with
        | none => rfl
        | some o =>
          by_cases hdx : d = x
          · rw [hdx, P3.o] at hd; cases hd
          · by_cases hdp : d = PT
            · obtain ⟨ps, e, _⟩ := P3.tb
              rw [hdp, e] at hd; cases hd
            · have := P3.b d o hh (by simp [hdx, hdp])
              rw [this] at hd; cases hd) ed
    | inr Tr =>
    intro A H6 s6 fr lay
    have eo := outL_told hO
    subst eo
    obtain ⟨ez, okT⟩ := R.tree
    subst ez
    have l3 := l3.plain
    have fl : Tr.flat.length = Tr.len := flat_len Tr
    have f400 : Tr.flat.length ≤ 400 := by rw [List.length_map] at cz; omega
    have eO : outA (Tr.flat.map some) = (match limOf Tr.flat.length (fin_ Tr).depths (namesL Tr.flat).length with | some r => .inl (none, r) | none => .inr Tr) := by unfold outA; rw [outL_tree]
    have Ao : A.o ≠ x := fun z => by
      have h1 := fr A.o (List.mem_cons_self ..)
      rw [z, P3.o] at h1; cases h1
    have P4 := P3.same s6
    have B4 : FB K T.C_Layout H6 A (fin_ Tr) ys Tr.flat [(t2, ys), (t1, (Tr.flat.map Stm.txt).map V.str)] [] := ⟨fun p hp => by
        rcases List.mem_cons.mp hp with e | e
        · rw [e]; exact (Same.keepT s6) _ _ e3
        · rw [List.mem_singleton.mp e]; exact (Same.keepT s6) _ _ q3, by simp, lay, l3.keep (Same.keepT s6)⟩
    clear e3 l3 q3 P3 s6 lay fr
    -- variables
    refine ⟨_, rfl, x, _, dx, _, _, rfl, P4.o, T.cl_Program, T.n_Program_statements, P4.get 1 rfl rfl, t2, ys, Tr.flat, rfl, B4.q (t2, ys) (by simp), B4.s, by omega, okT, fun z H7 s7 hz6 vz => ?_⟩
    obtain ⟨fs, o1, z1, P5, B5⟩ := (B4.same s7).set (P4.same s7) Ao (k := "variables") (.str z) rfl
    refine ⟨_, rfl, x, _, dx, fs, rfl, o1, T.cl_Program, T.n_Program_variables, z1, ?_⟩
    generalize upd H7 x (.ins T.C_Program dx (putF "variables" (.str z) fs)) = H8 at P5 B5 ⊢
    clear o1 z1 s7 B4 P4
    -- check_limits
    obtain ⟨dl, hol⟩ := B5.l.o
    refine ⟨_, rfl, x, _, dx, _, _, rfl, P5.o, T.cl_Program, T.n_Program_lines, P5.get 0 rfl rfl, _, rfl, A.o, _, dl, _, _, rfl, hol, T.cl_Layout, T.n_Layout_depths, fl_at A 4 rfl rfl, _, rfl, x, _, dx, _, _, rfl, P5.o, T.cl_Program, T.n_Program_variables, P5.get 2 rfl rfl, ?_⟩
    have n26 := (few_names Tr.flat okT).len
    have xlen : ((Tr.flat.map Stm.txt).map V.str).length = Tr.flat.length := by simp only [List.length_map]
    refine ⟨t1, A.d, z, (Tr.flat.map Stm.txt).map V.str, (fin_ Tr).depths, rfl, B5.q (t1, _) (by simp), by omega, B5.l.d, by show [0] ++ _ ≠ []; simp, by omega, ?_⟩
    rw [xlen, hz6]
    cases hL : limOf Tr.flat.length (fin_ Tr).depths (namesL Tr.flat).length with
    | some r =>
      rw [eO, hL] at q
      intro d H9 s9 hd ed
      have P9 := P5.same s9
      exact q d H9 P9.b P9.tb (by
        cases hh : H d with
        | none => rfl
        | some o =>
          by_cases hdx : d = x
          · rw [hdx, P5.o] at hd; cases hd
          · by_cases hdp : d = PT
            · obtain ⟨ps, e, _⟩ := P5.tb
              rw [hdp, e] at hd; cases hd
            · have := P5.b d o hh (by simp [hdx, hdp])
              rw [this] at hd; cases hd) ed
    | none =>
    rw [eO, hL] at q
    obtain ⟨f80, h5, n6⟩ := lim_none hL
    have h5 := high_of h5
    have e900 : (Tr.pE 0 1).length ≤ 900 := by have := pE_count Tr 0 1; omega
    refine limP_none ?_
    -- line_depths
    have tx : ((Tr.flat.map Stm.txt).map V.str).length = Tr.len := by simp only [List.length_map]; exact fl
    refine ⟨_, rfl, x, _, dx, _, _, rfl, P5.o, T.cl_Program, T.n_Program_lines, P5.get 0 rfl rfl, t1, _, rfl, .inr (B5.q (t1, (Tr.flat.map Stm.txt).map V.str) (by simp)), _, rfl, (by show -(2 ^ 62) ≤ ((((Tr.flat.map Stm.txt).map V.str).length : Nat) : Int); omega), (by show ((((Tr.flat.map Stm.txt).map V.str).length : Nat) : Int) < 2 ^ 62; rw [tx]; omega), fun D hD => ?_⟩
    refine lc_range (lo := 0) (n := ((Tr.flat.map Stm.txt).map V.str).length) (fun i H' => Same H8 H' ∧ H' D = some (.lst (((Tr.ldeps 0).take i).map fun n => V.int (n : Nat)))) ⟨same_new hD _, upd_same⟩ ?_ ?_
    · rintro i H' hi ⟨sm, hus⟩
      have hi2 : i < (Tr.ldeps 0).length := by rw [Kc.ldeps_length]; omega
      have ev : (Tr.ldeps 0)[i]? = some (Tr.ldeps 0)[i] := List.getElem?_eq_getElem hi2
      obtain ⟨dy, hoy⟩ := (B5.l.mono sm).o
      refine ⟨rfl, _, rfl, A.o, dy, _, rfl, hoy, fl_no A (by decide +kernel), _, rfl, A, fin_ Tr, i, (Tr.ldeps 0)[i], by rw [Int.zero_add]; rfl, B5.l.mono sm, ld_of Tr ev, _, hus, by rw [List.length_map, List.length_take]; exact small1000 (by omega), fun c o hc => ?_, ?_⟩
      · rw [upd_ne (ne_of_none hc hD)]; exact sm _ _ hc
      · rw [upd_same, take_snoc ev, List.map_append]; rfl
    rintro H9 ⟨s9, hus⟩
    rw [tx, List.take_of_length_le (by rw [Kc.ldeps_length]; exact Nat.le_refl _)] at hus
    refine ⟨D, _, rfl, .inl ⟨SqL.of hus, fun t4 ht4 => ?_⟩⟩
    generalize hgu : ((Tr.ldeps 0).map fun n => V.int (n : Nat)) = us at hus ⊢
    have s10 := s9.trans (same_new ht4 (.tup us))
    obtain ⟨fs, o1, z1, P6, B6⟩ := ((B5.same s10).addq (a := t4) (SqT.of upd_same)).set (P5.same s10) Ao (k := "line_depths") (.ref t4) rfl
    refine ⟨_, rfl, x, _, dx, fs, rfl, o1, T.cl_Program, T.n_Program_line_depths, z1, ?_⟩
    generalize upd (upd H9 t4 (.tup us)) x (.ins T.C_Program dx (putF "line_depths" (.ref t4) fs)) = H10 at P6 B6 ⊢
    clear s10 o1 z1 s9 hus ht4 B5 P5 hD hol
    -- parents
    obtain ⟨dl, hol⟩ := B6.l.o
    refine ⟨_, rfl, A.o, _, dl, _, _, rfl, hol, T.cl_Layout, T.n_Layout_parents, fl_at A 3 rfl rfl, A.p, _, rfl, .inl ⟨SqL.of B6.l.p, fun t5 ht5 => ?_⟩⟩
    have s11 := same_new ht5 (.tup ((fin_ Tr).parents.map opV))
    obtain ⟨fs, o1, z1, P7, B7⟩ := ((B6.same s11).addq (a := t5) (SqT.of upd_same)).set (P6.same s11) Ao (k := "parents") (.ref t5) rfl
    refine ⟨_, rfl, x, _, dx, fs, rfl, o1, T.cl_Program, T.n_Program_parents, z1, ?_⟩
    generalize upd (upd H10 t5 (.tup ((fin_ Tr).parents.map opV))) x (.ins T.C_Program dx (putF "parents" (.ref t5) fs)) = H11 at P7 B7 ⊢
    clear s11 o1 z1 ht5 B6 P6 hol
    -- scope_depths
    obtain ⟨dl, hol⟩ := B7.l.o
    refine ⟨_, rfl, A.o, _, dl, _, _, rfl, hol, T.cl_Layout, T.n_Layout_depths, fl_at A 4 rfl rfl, A.d, _, rfl, .inl ⟨SqL.of B7.l.d, fun t6 ht6 => ?_⟩⟩
    have s12 := same_new ht6 (.tup ((fin_ Tr).depths.map fun n => V.int (n : Nat)))
    obtain ⟨fs, o1, z1, P8, B8⟩ := ((B7.same s12).addq (a := t6) (SqT.of upd_same)).set (P7.same s12) Ao (k := "scope_depths") (.ref t6) rfl
    refine ⟨_, rfl, x, _, dx, fs, rfl, o1, T.cl_Program, T.n_Program_scope_depths, z1, ?_⟩
    generalize upd (upd H11 t6 (.tup ((fin_ Tr).depths.map fun n => V.int (n : Nat)))) x (.ins T.C_Program dx (putF "scope_depths" (.ref t6) fs)) = H12 at P8 B8 ⊢
    clear s12 o1 z1 ht6 B7 P7 hol
    -- loops
    obtain ⟨dl, hol⟩ := B8.l.o
    have kl : (fin_ Tr).kinds.length = Tr.nsc + 1 := fin_kinds Tr
    have nl := nsc_len Tr
    refine ⟨_, rfl, A.o, _, dl, _, _, rfl, hol, T.cl_Layout, T.n_Layout_kinds, fl_at A 0 rfl rfl, A.k, _, rfl, SqL.of B8.l.k, fun D hD => ?_⟩
    refine lc_it (walk_enum (xs := (fin_ Tr).kinds.map fun k => V.str k.pw)) (fun i H' => Same H12 H' ∧ H' D = some (.lst (((List.range i).filter fun k => decide ((fin_ Tr).kinds[k]? = some .whl)).map fun n => V.int (n : Nat)))) ⟨same_new hD _, upd_same⟩ ?_ ?_ ?_
    · rintro i H' _ ⟨sm, _⟩
      exact SqL.of (sm _ _ B8.l.k)
    · rintro i y H' H'' hi ⟨sm, hus⟩ ⟨T0, x0, y0, rfl, hT0, rfl, ex0, ey0⟩
      cases ex0
      have hi' : i < (fin_ Tr).kinds.length := by simpa using hi
      have ey0 : ((fin_ Tr).kinds.map fun k => V.str k.pw)[i]? = some y0 := ey0
      rw [List.getElem?_map, List.getElem?_eq_getElem hi'] at ey0
      cases ey0
      have sT := same_new hT0 (.tup [V.int (i : Nat), .str ((fin_ Tr).kinds[i]).pw])
      refine ⟨T0, [.int (i : Nat), .str ((fin_ Tr).kinds[i]).pw], rfl, SqT.of upd_same, rfl, _, _, rfl, _, _, rfl, rfl, rfl, _, rfl, rfl, _, rfl, ?_⟩
      rw [pw_whl]
      have hus2 := sT _ _ hus
      generalize upd H' T0 (.tup [V.int (i : Nat), .str ((fin_ Tr).kinds[i]).pw]) = H13 at sT hus2 ⊢
      have ek : (fin_ Tr).kinds[i]? = some (fin_ Tr).kinds[i] := List.getElem?_eq_getElem hi'
      have lenl : ((List.range i).filter fun k => decide ((fin_ Tr).kinds[k]? = some Kd.whl)).length ≤ i := by
        have := List.length_filter_le (fun k => decide ((fin_ Tr).kinds[k]? = some Kd.whl)) (List.range i)
        rwa [List.length_range] at this
      by_cases hk : (fin_ Tr).kinds[i] = .whl
      · rw [decide_eq_true hk]
        refine iteT (B := True) ?_
        refine ⟨_, rfl, _, hus2, by rw [List.length_map]; exact small1000 (by omega), fun c o hc => ?_, ?_⟩
        · rw [upd_ne (ne_of_none hc hD)]; exact sT _ _ (sm _ _ hc)
        · rw [upd_same, List.range_succ, List.filter_append, List.filter_cons_of_pos (by rw [ek, hk]; exact decide_eq_true rfl), List.map_append]; rfl
      · rw [decide_eq_false hk]
        refine iteF (A := True) ?_
        refine ⟨sm.trans sT, ?_⟩
        rw [List.range_succ, List.filter_append, List.filter_cons_of_neg (by rw [ek]; simpa using hk), List.filter_nil, List.append_nil]; exact hus2
    rintro H13 ⟨s13, hus⟩
    rw [List.length_map] at hus
    refine ⟨D, _, rfl, .inl ⟨SqL.of hus, fun t7 ht7 => ?_⟩⟩
    generalize els : (List.range (fin_ Tr).kinds.length).filter (fun k => decide ((fin_ Tr).kinds[k]? = some Kd.whl)) = ls at hus ht7 ⊢
    have s14 := s13.trans (same_new ht7 (.tup (ls.map fun n => V.int (n : Nat))))
    obtain ⟨fs, o1, z1, P9, B9⟩ := ((B8.same s14).addq (a := t7) (SqT.of upd_same)).set (P8.same s14) Ao (k := "loops") (.ref t7) rfl
    refine ⟨_, rfl, x, _, dx, fs, rfl, o1, T.cl_Program, T.n_Program_loops, z1, ?_⟩
    generalize upd (upd H13 t7 (.tup (ls.map fun n => V.int (n : Nat)))) x (.ins T.C_Program dx (putF "loops" (.ref t7) fs)) = H14 at P9 B9 ⊢
    clear s14 o1 z1 ht7 B8 P8 hol hus s13 hD
    -- point_scopes
    obtain ⟨dl, hol⟩ := B9.l.o
    refine ⟨_, rfl, A.o, _, dl, _, _, rfl, hol, T.cl_Layout, T.n_Layout_point_scopes, fl_at A 5 rfl rfl, A.t, _, rfl, .inl ⟨SqL.of B9.l.t, fun t8 ht8 => ?_⟩⟩
    have s15 := same_new ht8 (.tup ((fin_ Tr).pts.map fun n => V.int (n : Nat)))
    obtain ⟨fs, o1, z1, P10, B10⟩ := ((B9.same s15).addq (a := t8) (SqT.of upd_same)).set (P9.same s15) Ao (k := "point_scopes") (.ref t8) rfl
    refine ⟨_, rfl, x, _, dx, fs, rfl, o1, T.cl_Program, T.n_Program_point_scopes, z1, ?_⟩
    generalize upd (upd H14 t8 (.tup ((fin_ Tr).pts.map fun n => V.int (n : Nat)))) x (.ins T.C_Program dx (putF "point_scopes" (.ref t8) fs)) = H15 at P10 B10 ⊢
    clear s15 o1 z1 ht8 B9 P9 hol
    -- depths
    have pl : (fin_ Tr).pts.length = Tr.len + 1 := fin_pts Tr
    refine ⟨_, rfl, x, _, dx, _, _, rfl, P10.o, T.cl_Program, T.n_Program_point_scopes, P10.get 7 rfl rfl, t8, rfl, ⟨_, B10.q (t8, (fin_ Tr).pts.map fun n => V.int (n : Nat)) (by simp)⟩, fun D hD => ?_⟩
    refine lc_tup (xs := (fin_ Tr).pts.map fun n => V.int (n : Nat)) (fun i H' => Same H15 H' ∧ H' D = some (.lst (((fin_ Tr).pts.take i).map fun s => V.int (((fin_ Tr).depths.getD s 0 : Nat))))) ⟨same_new hD _, upd_same⟩ ?_ ?_ ?_
    · rintro i H' _ ⟨sm, _⟩
      exact (B10.same sm).q (t8, (fin_ Tr).pts.map fun n => V.int (n : Nat)) (by simp)
    · rintro i y H' hy ⟨sm, hus⟩
      rw [List.getElem?_map] at hy
      obtain ⟨s0, hs0, rfl⟩ := Option.map_eq_some_iff.mp hy
      have hlt : s0 < (fin_ Tr).depths.length := by rw [fin_depths]; exact fin_pt Tr (List.mem_of_getElem? hs0)
      have hi := (List.getElem?_eq_some_iff.mp hs0).1
      have Ps := P10.same sm
      refine ⟨rfl, _, rfl, x, _, dx, _, _, rfl, Ps.o, T.cl_Program, T.n_Program_scope_depths, Ps.get 5 rfl rfl, _, rfl, t6, _, _, .int (((fin_ Tr).depths.getD s0 0 : Nat)), rfl, rfl, (B10.same sm).q (t6, (fin_ Tr).depths.map fun n => V.int (n : Nat)) (by simp), nt_at (by rw [List.getD_eq_getElem?_getD, List.getElem?_eq_getElem hlt]; rfl), _, hus, by rw [List.length_map, List.length_take]; exact small1000 (by omega), fun c o hc => ?_, ?_⟩
      · rw [upd_ne (ne_of_none hc hD)]; exact sm _ _ hc
      · rw [upd_same, take_snoc hs0, List.map_append]; rfl
    rintro H16 ⟨s16, hus⟩
    rw [List.length_map, List.take_length] at hus
    refine ⟨D, _, rfl, .inl ⟨SqL.of hus, fun t9 ht9 => ?_⟩⟩
    have s17 := s16.trans (same_new ht9 (.tup ((fin_ Tr).pts.map fun s => V.int (((fin_ Tr).depths.getD s 0 : Nat)))))
    obtain ⟨fs, o1, z1, P11, B11⟩ := ((B10.same s17).addq (a := t9) (SqT.of upd_same)).set (P10.same s17) Ao (k := "depths") (.ref t9) rfl
    refine ⟨_, rfl, x, _, dx, fs, rfl, o1, T.cl_Program, T.n_Program_depths, z1, ?_⟩
    generalize upd (upd H16 t9 (.tup ((fin_ Tr).pts.map fun s => V.int (((fin_ Tr).depths.getD s 0 : Nat))))) x (.ins T.C_Program dx (putF "depths" (.ref t9) fs)) = H17 at P11 B11 ⊢
    clear s17 o1 z1 ht9 B10 P10 hus s16 hD
    -- edges
    refine ⟨_, rfl, x, _, dx, _, _, rfl, P11.o, T.cl_Program, T.n_Program_lines, P11.get 0 rfl rfl, _, rfl, x, _, dx, _, _, rfl, P11.o, T.cl_Program, T.n_Program_statements, P11.get 1 rfl rfl, _, rfl, ?_⟩
    refine ⟨t1, t2, A, fin_ Tr, Tr.flat, ys, Tr.pE 0 1, rfl, ?_, B11.q (t2, ys) (by simp), B11.s, B11.l, sm_fin Tr (by omega), lines_fin Tr, e900, fun t10 H18 zs s18 f18 e10 tz => ?_⟩
    · have := B11.q (t1, (Tr.flat.map Stm.txt).map V.str) (by simp)
      rw [List.map_map] at this; exact this
    obtain ⟨fs, o1, z1, P12, B12⟩ := (((B11.same s18).addq (a := t10) (SqT.of e10)).addt tz).set (P11.same s18) Ao (k := "edges") (.ref t10) rfl
    refine ⟨_, rfl, x, _, dx, fs, rfl, o1, T.cl_Program, T.n_Program_edges, z1, ?_⟩
    generalize upd H18 x (.ins T.C_Program dx (putF "edges" (.ref t10) fs)) = H19 at P12 B12 ⊢
    clear s18 o1 z1 e10 tz f18 B11 P11
    -- followers
    refine ⟨_, rfl, x, _, dx, _, _, rfl, P12.o, T.cl_Program, T.n_Program_edges, P12.get 9 rfl rfl, _, rfl, x, _, dx, _, _, rfl, P12.o, T.cl_Program, T.n_Program_depths, P12.get 8 rfl rfl, t9, (fin_ Tr).pts.map (fun s => V.int (((fin_ Tr).depths.getD s 0 : Nat))), rfl, .inr (B12.q (t9, (fin_ Tr).pts.map fun s => V.int (((fin_ Tr).depths.getD s 0 : Nat))) (by simp)), ?_⟩
    have range : ∀ e ∈ Tr.pE 0 1, e.s < Tr.len + 1 := fun e he => by
      have := (rising_mem (pE_rising Tr 0 1) e he).2
      omega
    refine ⟨t10, Tr.len + 1, zs, Tr.pE 0 1, by rw [List.length_map, pl]; rfl, B12.q (t10, zs) (by simp), B12.t (zs, (Tr.pE 0 1).map Edge.vals) (by simp), range, by omega, e900, fun t11 H20 ws s20 f20 e11 tw => ?_⟩
    obtain ⟨fs, o1, z1, P13, B13⟩ := (((B12.same s20).addq (a := t11) (SqT.of e11)).addt tw).set (P12.same s20) Ao (k := "followers") (.ref t11) rfl
    refine ⟨_, rfl, x, _, dx, fs, rfl, o1, T.cl_Program, T.n_Program_followers, z1, ?_⟩
    generalize upd H20 x (.ins T.C_Program dx (putF "followers" (.ref t11) fs)) = H21 at P13 B13 ⊢
    clear s20 o1 z1 e11 tw f20 B12 P12
    -- sites
    refine ⟨_, rfl, x, _, dx, _, _, rfl, P13.o, T.cl_Program, T.n_Program_statements, P13.get 1 rfl rfl, t2, _, rfl, B13.q (t2, ys) (by simp), fun D hD => ?_⟩
    refine lc_it (walk_enumT (xs := ys)) (fun i H' => Same H21 H' ∧ H' D = some (.lst (((List.range i).filter (siteAt Tr)).map fun n => V.int (n : Nat)))) ⟨same_new hD _, upd_same⟩ ?_ ?_ ?_
    · rintro i H' _ ⟨sm, _⟩
      exact (B13.same sm).q (t2, ys) (by simp)
    · rintro i y H' H'' hi ⟨sm, hks⟩ ⟨T0, x0, y0, rfl, hT0, rfl, ex0, ey0⟩
      cases ex0
      have hyl : ys.length = Tr.flat.length := B13.s.1
      have si : Tr.flat[i]? = some Tr.flat[i] := List.getElem?_eq_getElem (by omega)
      obtain ⟨a, ha1, _⟩ := B13.s.2 i _ si
      have ey0 : ys[i]? = some y0 := ey0
      rw [ha1] at ey0
      cases ey0
      have sT := same_new hT0 (.tup [V.int (i : Nat), .ref a])
      obtain ⟨a', hb1, hb2⟩ := (B13.same (sm.trans sT)).s.2 i _ si
      have ea : a = a' := by rw [ha1] at hb1; injection hb1 with e; injection e
      subst ea
      obtain ⟨r, er⟩ := vals_word Tr.flat[i]
      refine ⟨T0, [.int (i : Nat), .ref a], rfl, SqT.of upd_same, rfl, _, _, rfl, _, _, rfl, rfl, rfl, _, rfl, a, _, _, .str (Tr.flat[i]).word, rfl, rfl, hb2, by rw [er]; exact atI_nat (j := 0) rfl, rfl, _, rfl, ?_⟩
      have hks2 := sT _ _ hks
      generalize upd H' T0 (.tup [V.int (i : Nat), .ref a]) = H22 at sT hks2 ⊢
      have lenl : ((List.range i).filter (siteAt Tr)).length ≤ i := by
        have := List.length_filter_le (siteAt Tr) (List.range i)
        rwa [List.length_range] at this
      by_cases hw : (Tr.flat[i]).word = ("pair" : Str)
      · have sa : siteAt Tr i = true := by unfold siteAt; rw [si]; exact decide_eq_true (by rw [Option.map_some, hw])
        rw [hw, decide_eq_true rfl]
        refine iteT (B := True) ?_
        refine ⟨_, rfl, _, hks2, by rw [List.length_map]; exact small1000 (by omega), fun c o hc => ?_, ?_⟩
        · rw [upd_ne (ne_of_none hc hD)]; exact sT _ _ (sm _ _ hc)
        · rw [upd_same, List.range_succ, List.filter_append, List.filter_cons_of_pos sa, List.map_append]; rfl
      · have sa : siteAt Tr i = false := by unfold siteAt; rw [si]; exact decide_eq_false (by rw [Option.map_some]; intro z; exact hw (Option.some.inj z))
        rw [decide_eq_false (fun z => hw (V.str.inj z))]
        refine iteF (A := True) ?_
        refine ⟨sm.trans sT, ?_⟩
        rw [List.range_succ, List.filter_append, List.filter_cons_of_neg (by rw [sa]; exact Bool.false_ne_true), List.filter_nil, List.append_nil]; exact hks2
    rintro H22 ⟨s22, hks⟩
    have hyl : ys.length = Tr.flat.length := B13.s.1
    rw [hyl] at hks
    have kl2 : (sitesOf Tr).length ≤ ys.length := by
      have := List.length_filter_le (siteAt Tr) (List.range Tr.flat.length)
      rw [List.length_range] at this
      rw [hyl]; exact this
    have klt : ∀ k ∈ sitesOf Tr, k < ys.length := fun k hk => by rw [hyl]; exact List.mem_range.mp (List.mem_filter.mp hk).1
    have hks : H22 D = some (.lst ((sitesOf Tr).map fun n => V.int (n : Nat))) := hks
    generalize eks : sitesOf Tr = ks at hks kl2 klt
    refine ⟨D, _, rfl, .inl ⟨SqL.of hks, fun t12 ht12 => ?_⟩⟩
    have s23 := s22.trans (same_new ht12 (.tup (ks.map fun n => V.int (n : Nat))))
    obtain ⟨fs, o1, z1, P14, B14⟩ := ((B13.same s23).addq (a := t12) (SqT.of upd_same)).set (P13.same s23) Ao (k := "sites") (.ref t12) rfl
    refine ⟨_, rfl, x, _, dx, fs, rfl, o1, T.cl_Program, T.n_Program_sites, z1, ?_⟩
    generalize upd (upd H22 t12 (.tup (ks.map fun n => V.int (n : Nat)))) x (.ins T.C_Program dx (putF "sites" (.ref t12) fs)) = H23 at P14 B14 ⊢
    clear s23 o1 z1 ht12 B13 P13 hks s22 hD
    -- site_scopes
    refine ⟨_, rfl, x, _, dx, _, _, rfl, P14.o, T.cl_Program, T.n_Program_sites, P14.get 11 rfl rfl, t12, rfl, ⟨_, B14.q (t12, ks.map fun n => V.int (n : Nat)) (by simp)⟩, fun D hD => ?_⟩
    refine lc_tup (xs := ks.map fun n => V.int (n : Nat)) (fun i H' => Same H23 H' ∧ ∃ us : List V, H' D = some (.lst us) ∧ us.length = i ∧ TupsAt H' us ((ks.take i).map (arL Tr))) ⟨same_new hD _, [], upd_same, rfl, .nil⟩ ?_ ?_ ?_
    · rintro i H' _ ⟨sm, _⟩
      exact (B14.same sm).q (t12, ks.map fun n => V.int (n : Nat)) (by simp)
    · rintro i y H' hy ⟨sm, us, hus, ul, ut⟩
      rw [List.getElem?_map] at hy
      obtain ⟨k, hk, rfl⟩ := Option.map_eq_some_iff.mp hy
      have hkl := klt k (List.mem_of_getElem? hk)
      have hil := (List.getElem?_eq_some_iff.mp hk).1
      have hkp : k < (fin_ Tr).pts.length := by omega
      have hsd : (fin_ Tr).pts[k] < (fin_ Tr).depths.length := by rw [fin_depths]; exact fin_pt Tr (List.getElem_mem hkp)
      have Ps := P14.same sm
      have Bs := B14.same sm
      have d5 := dep5 Tr h5 _ (List.getElem_mem hsd)
      refine ⟨rfl, _, rfl, x, dx, _, rfl, Ps.o, lookup_zip_none (by decide +kernel), _, rfl, x, _, dx, _, _, rfl, Ps.o, T.cl_Program, T.n_Program_point_scopes, Ps.get 7 rfl rfl, _, rfl, t8, _, _, .int ((fin_ Tr).pts[k] : Nat), rfl, rfl, Bs.q (t8, (fin_ Tr).pts.map fun n => V.int (n : Nat)) (by simp), nt_at (List.getElem?_eq_getElem hkp), ?_⟩
      refine ⟨x, dx, t5, _, (fin_ Tr).pts[k], (fin_ Tr).depths[(fin_ Tr).pts[k]], (fin_ Tr).parents, (fin_ Tr).depths, rfl, Ps.o, Ps.get 4 rfl rfl, Bs.q (t5, (fin_ Tr).parents.map opV) (by simp), chain_fin Tr, List.getElem?_eq_getElem hsd, by omega, fun t H24 s24 f24 e24 => ?_⟩
      refine ⟨us, s24 _ _ hus, by rw [ul]; exact small1000 (by omega), fun c o hc => ?_, us ++ [.ref t], upd_same, by simp [ul], ?_⟩
      · rw [upd_ne (ne_of_none hc hD)]; exact s24 _ _ (sm _ _ hc)
      · have hD24 := s24 _ _ hus
        rw [take_snoc hk, List.map_append]
        have ear : arL Tr k = (around (fin_ Tr).parents 6 (fin_ Tr).pts[k]).map fun n => V.int (n : Nat) := by unfold arL; rw [List.getD_eq_getElem?_getD, List.getElem?_eq_getElem hkp]; rfl
        refine TupsAt.snoc (ut.mono fun c vs hc => ?_) ?_
        · rw [upd_ne (ne_of (s24 _ _ hc) hD24 (by intro z; cases z))]; exact s24 _ _ hc
        · rw [upd_ne (ne_of e24 hD24 (by intro z; cases z)), ear]; exact e24
    rintro H24 ⟨s24, us2, hus2, ul2, ut2⟩
    rw [List.length_map, List.take_length] at ut2
    refine ⟨D, _, rfl, .inl ⟨SqL.of hus2, fun t13 ht13 => ?_⟩⟩
    have s25 := s24.trans (same_new ht13 (.tup us2))
    obtain ⟨fs, o1, z1, P15, B15⟩ := (((B14.same s25).addq (a := t13) (SqT.of upd_same)).addt (ut2.mono fun c vs hc => same_new ht13 (.tup us2) _ _ hc)).set (P14.same s25) Ao (k := "site_scopes") (.ref t13) rfl
    refine ⟨_, rfl, x, _, dx, fs, rfl, o1, T.cl_Program, T.n_Program_site_scopes, z1, ?_⟩
    refine q _ P15.b P15.tb ⟨dx, t1, t2, t4, t5, t6, t7, t8, t9, t10, t11, t12, t13, z, P15.o, B15.q (t5, (fin_ Tr).parents.map opV) (by simp), B15.q (t6, (fin_ Tr).depths.map fun n => V.int (n : Nat)) (by simp), ⟨ls, B15.q (t7, ls.map fun n => V.int (n : Nat)) (by simp), els.symm⟩, B15.q (t8, (fin_ Tr).pts.map fun n => V.int (n : Nat)) (by simp), B15.q (t9, (fin_ Tr).pts.map fun s => V.int (((fin_ Tr).depths.getD s 0 : Nat))) (by simp), ⟨zs, B15.q (t10, zs) (by simp), B15.t (zs, (Tr.pE 0 1).map Edge.vals) (by simp)⟩, ⟨ws, B15.q (t11, ws) (by simp), B15.t (ws, (List.range (Tr.len + 1)).map (stopsOf (Tr.pE 0 1))) (by simp)⟩,
      B15.q (t1, (Tr.flat.map Stm.txt).map V.str) (by simp), by rw [eks]; exact B15.q (t12, ks.map fun n => V.int (n : Nat)) (by simp), ⟨us2, B15.q (t13, us2) (by simp), by rw [eks]; exact B15.t (us2, ks.map (arL Tr)) (by simp)⟩, ⟨ys, B15.q (t2, ys) (by simp), B15.s⟩, by rw [hgu]; exact B15.q (t4, us) (by simp), vz⟩
end
end Kp
end
section
set_option Elab.async false
set_option linter.all false
set_option maxRecDepth 100000
set_option maxHeartbeats 4000000
namespace Kp
open PySem PySem.Spec PyProof.Rows L2
/-! C(e, ..) in a try: what its __init__ raises is told at the store that stands. -/
section
variable {X : Cx} {CX : CXT} {lev : Nat} {fI C : Addr} {dat : FuncData} {names : List Str} {spec : Sp} {nm : Str} {p pos : Pos} {e : Expr} {es : List Expr} {ta : TA}
theorem run_mks {pins : List (Addr × Obj)} {σ : L2.St} {H : Hp} {st : Shared} {Q : VK} {Z : XK} {us : List Value} {vs : List V} (M : Mk X.K C fI) (F : FnOk X.prog X.w X.K X.mg X.base CX lev fI dat names spec) (room : Room (lev + 1) X.A) (bind : Binds X.K dat names [])
    (pass : PassesAt CX X σ Z) (I : Inv X pins σ H st) (r : Vals vs us)
    (wish : ∀ x dx, H x = none → H dx = none → dx ≠ x → spec (.ref x :: vs) (upd (upd H dx (.own x)) x (.ins C dx [])) (fun v H2 => v = .non ∧ Q (.ref x) H2) Z) :
    wpAny (model X.prog X.w) X.A (call (.ref C) us) (EP X pins σ Q) X.xe st := by
  have now := wish (st.heap.objs.size + 1) st.heap.objs.size (I.hok.fresh (Nat.le_succ _)) (I.hok.fresh (Nat.le_refl _)) (Nat.ne_of_lt (Nat.lt_succ_self _))
  have J := Inv.made (C := C) I
  have both : Vals (V.ref (st.heap.objs.size + 1) :: vs) (Value.ref (st.heap.objs.size + 1) :: us) := .cons rfl r
  have many : (Value.ref (st.heap.objs.size + 1) :: us).length = names.length := (both.length.symm.trans (F.len _ _ _ _ now))
  have bound := bind _ (Value.ref (st.heap.objs.size + 1) :: us) J.kIn (by rw [List.append_nil]; exact many)
  rw [List.append_nil] at bound
  have ran := F.run _ X.stack _ _ ⟨Value.ref (st.heap.objs.size + 1) :: us, []⟩ (Value.ref (st.heap.objs.size + 1) :: us) _ _ Z (room.make C us []) (J.env0.make C us []) bound both now
  refine wpAny_call (make_map (f := fI) I.kIn M.makes M.init (beq_iff_eq.mp M.fn) (codeAny_mono ran fun out s2 after => ?_))
  cases out with
  | error x => exact pass pins _ _ x s2 J after
  | ok fl =>
    cases fl with
    | ret u =>
      obtain ⟨v, H2, I3, rv, ev, q3⟩ := J.after after
      subst ev
      exact ⟨rv, ⟨V.ref (st.heap.objs.size + 1), H2, I3, rfl, q3⟩⟩
    | next => exact False.elim after
    | brk => exact False.elim after
    | cont => exact False.elim after
def tMakeS (C : Addr) (sp : Sp) (E : L2.St → XK) (t : TA) : TE := fun σ H Q => t σ H fun vs H1 => ∀ x dx, H1 x = none → H1 dx = none → dx ≠ x → sp (.ref x :: vs) (upd (upd H1 dx (.own x)) x (.ins C dx [])) (fun v H2 => v = .non ∧ Q (.ref x) H2) (E σ)
theorem pe_makeS {E : L2.St → XK} (M : Mk X.K C fI) (F : FnOk X.prog X.w X.K X.mg X.base CX lev fI dat names spec) (room : Room (lev + 1) X.A) (hg : Gl X nm) (hm : X.mg nm = some (.ref C)) (bind : Binds X.K dat names []) (pass : ∀ σ, PassesAt CX X σ (E σ))
    (ha : PA X (e :: es) ta) (hdb : (nm == ("__debug__" : Str)) = false := by decide) (hs : starEach (e :: es) X.env = (false, eval e X.env) :: starEach es X.env := by rfl) (hpl : (backTo pos (starEach es X.env)).any (·.1) = false := by rfl) :
    PE X (.Call (.Name nm p) (e :: es) [] pos) (tMakeS C spec E ta) := by
  refine ⟨fun pins st σ H Q I wish => ?_⟩
  refine wpAny_Call_Name_kw (ld_glob I hg hm ?_ hdb)
  exact PySem.W.callWith_K (h₀ := X.base) I.ok.mod.kin M.kp (thn (ha.run pos pins st σ H _ I wish) fun us s1 ⟨vs, H1, I1, r, q⟩ => ⟨I1.kIn, run_mks M F room bind (pass σ) I1 r q⟩) hs hpl
end
end Kp
end
section
set_option Elab.async false
set_option linter.all false
set_option maxRecDepth 100000
set_option maxHeartbeats 4000000
namespace Kp
open PySem L2
/-! several except clauses, each with the same name: except A as e: .. except B as e: .. -/
section
open PySem.Spec PyProof.Rows
def asEnds (D : Ends) (i : Nat) : Ends := { nx := fun τ G => D.nx (τ.set i none) G, rt := D.rt, bk := fun τ G => D.bk (τ.set i none) G, ct := fun τ G => D.ct (τ.set i none) G }
def wManyAs (K : PySem.W.Frag) (i : Nat) (Wout : WX) (D : Ends) : List (Value × (Addr → Value → Option Addr → TS)) → WX
  | [] => Wout
  | (c, ts) :: r => fun cls d σ H => ∃ yes, PySem.W.exmOne K cls c = some yes ∧ (yes = true → ∀ a, H a = none → ts a cls d (asEnds D i) (σ.set i (some (.ref a))) H) ∧ (yes = false → wManyAs K i Wout D r cls d σ H)
inductive HdsAs (X : Cx) (n : Str) : List ExceptHandler → List (Value × (Addr → Value → Option Addr → TS)) → Prop
  | nil : HdsAs X n [] []
  | cons {x : Str} {c : Value} {ts : Addr → Value → Option Addr → TS} {b₀ : Stmt} {suite : List Stmt} {np p1 : Pos} {hds : List ExceptHandler} {l : List (Value × (Addr → Value → Option Addr → TS))} (named : Names X x c)
      (walk : ∀ (a : Addr) (oe : Obj) (cls : Value) (d : Option Addr) (pn : List (Addr × Obj)), Zc cls d oe → (∃ vs, oe.data = .fields vs) → PSs (X.suite a ((a, oe) :: pn)) (b₀ :: suite) (ts a cls d)) (more : HdsAs X n hds l) :
      HdsAs X n (.ExceptHandler (some (.Name x np)) (some n) (b₀ :: suite) p1 :: hds) ((c, ts) :: l)
variable {X : Cx} {body : List Stmt} {first : ExceptHandler} {hds : List ExceptHandler} {l : List (Value × (Addr → Value → Option Addr → TS))} {pos : Pos} {tb : WX → TS} {Wout : WX} {n : Str} {i : Nat}
theorem ps_try_manyAs (stk : X.stack = X.env :: X.outer) (frm : X.env.frame = some X.env.locals) (nd : X.N.Nodup) (slot : X.N[i]? = some n) (own : X.env.kindOf n = some .local) (outward : Takes X Wout)
    (walk : ∀ (W : WX) (pn : List (Addr × Obj)) (xe : Value → Shared → Prop), Takes (X.tr pn xe) W → PassesOwn (model X.prog X.w) X.A X.env xe → PSs (X.tr pn xe) body (tb W))
    (clauses : HdsAs X n (first :: hds) l) : PS X (.Try body (first :: hds) [] [] pos) (fun D σ H => tb (wManyAs X.K i Wout D l) D σ H) := by
  refine ⟨fun pins st σ H D I wish => ?_⟩
  have sound := I.ok
  have frames : X.A.frames = some (X.env :: X.outer) := by rw [sound.frames, stk]
  have place : Loc X.env.scope n := .inl own
  refine wpAny_Try_except ?_
  have caught := (walk (wManyAs X.K i Wout D l) (X.pn ++ pins) (fun e s₁ => wpAny (model X.prog X.w) X.A (noteFrame e X.env) (fun _ s₂ => wpAny (model X.prog X.w) X.A (setFlight e none) (fun _ s₃ =>
    wpAny (model X.prog X.w) X.A (handleBy e X.env (first :: hds)) (SP X pins D) X.xe s₃) X.xe s₂) X.xe s₁) (fun u s' landed => ?_) PassesOwn.looking).run [] st σ H D (I.toTry _) wish
  · refine wpAny_mono caught (fun fl s1 after => ?_) (fun _ _ z => z)
    cases fl with
    | next =>
      obtain ⟨τ, G, J, q⟩ := after
      exact wpAny_execs_nil ⟨τ, G, J.ofTry sound, q⟩
    | brk =>
      obtain ⟨τ, G, J, q⟩ := after
      exact ⟨τ, G, J.ofTry sound, q⟩
    | cont =>
      obtain ⟨τ, G, J, q⟩ := after
      exact ⟨τ, G, J.ofTry sound, q⟩
    | ret u =>
      obtain ⟨v, τ, G, J, r, q⟩ := after
      exact ⟨v, τ, G, J.ofTry sound, r, q⟩
  · obtain ⟨a, B, sI, pins', τ, G, cls, d, rfl, J', nb, up, sky, na, os, ag, due⟩ := landed
    have J : Inv X pins τ G sI := J'.ofTry sound
    have high : Sky B (X.env :: X.outer) a (Zc cls d) X.env.locals s'.heap := by rw [← stk]; exact sky
    show wpAny (model X.prog X.w) X.A (noteFrame (.ref a) X.env) _ _ _
    refine Sky.land Zc.steady frames frm high fun h3 fl3 up3 => ?_
    have J3 : Inv X pins τ G { s' with heap := h3 } := J.landed nb fl3.1 (up.trans up3) os ag
    obtain ⟨ob3, vs3, at3, z3, dat3⟩ := fl3.there
    have apart : a ∉ frs (X.env :: X.outer) := fun hm => by
      obtain ⟨_, o', e', hnf⟩ := fl3.2.2.1.mem hm
      rw [at3] at e'; cases e'
      exact hnf _ dat3
    have nLoc : a ≠ X.env.locals := fun z => apart (List.mem_filterMap.mpr ⟨X.env, List.mem_cons_self, by rw [frm, z]⟩)
    have nFs : a ∉ X.fs := fun hm => by
      obtain ⟨e, he, q⟩ := List.mem_filterMap.mp hm
      exact apart (List.mem_filterMap.mpr ⟨e, List.mem_cons_of_mem _ he, q⟩)
    have S3 := J3.suite at3 dat3 na nLoc nFs
    have go : ∀ {hs' : List ExceptHandler} {l' : List (Value × (Addr → Value → Option Addr → TS))}, HdsAs X n hs' l' → wManyAs X.K i Wout D l' cls d τ G →
        wpAny (model X.prog X.w) X.A (handleBy (.ref a) X.env hs') (SP X pins D) X.xe { s' with heap := h3 } := by
      intro hs' l' cl
      induction cl with
      | nil =>
        intro out
        refine wpAny_handleBy_nil ?_
        obtain ⟨_, _, _, oe, vs, T, oT, ts', he, hz, hd, h1, hr⟩ := id fl3
        unfold PySem.passOn
        refine wpAny_bind (wpAny_field he hd h1 ?_)
        rw [if_neg (show ¬ ((Value.ref T == Value.none) = true) by simp)]
        have leave : wpAny (model X.prog X.w) X.A (setFlight (.ref a) X.env.frame) (fun _ s4 => wpAny (model X.prog X.w) X.A (throw (.ref a) : Sem Flow) (SP X pins D) X.xe s4) X.xe { s' with heap := h3 } := by
          rw [frm]
          refine HandSPX.setFlight_upZ fl3 fun h4 hh4 up4 => wpAny_throw (outward _ _ ?_)
          refine ⟨a, B, sI, pins, τ, G, cls, d, rfl, J, nb, (up.trans up3).trans up4, .inr (.inr ?_), na, os, ag, out⟩
          rw [stk]; exact hh4
        first
          | exact wpAny_bind leave
          | exact wpAny_bind (wpAny_pure (wpAny_bind leave))
      | @cons x c ts b₀ suite np p1 hds2 l2 named walk2 more ih =>
        intro due
        obtain ⟨yes, told, hit, miss⟩ := due
        refine wpAny_handleBy_cons (codeAny_handlers_test ?_) (by intro q; cases q)
        have kind : PySem.W.Looks (model X.prog X.w) h3 (typeOf (.ref a)) cls := fun A Q E s k q => wpAny_typeOf_ref (k _ _ at3) (by rw [z3.1]; exact q)
        have match_ := PySem.W.exm_one (M := model X.prog X.w) (J3.kIn) kind told
        have name : ∀ {Q : Value → Shared → Prop} {E : Value → Shared → Prop}, Q c { s' with heap := h3 } → wpAny (model X.prog X.w) (X.A.mark (some (.ref a))) (eval (.Name x np) X.env) Q E { s' with heap := h3 } := fun {Q E} q => by
          obtain ⟨hg, hdbg, hm | ⟨hm, hv, hnn⟩⟩ := named
          · exact ld_glob (X := X.suite a ((a, ob3) :: (X.pn ++ pins))) S3 hg hm q hdbg
          · exact ld_blt (X := X.suite a ((a, ob3) :: (X.pn ++ pins))) S3 hg hm hv q hnn hdbg
        refine name (match_.here ?_)
        cases yes with
        | false =>
          show wpAny _ X.A (handleBy (.ref a) X.env hds2) _ _ _
          exact ih (miss rfl)
        | true =>
          refine codeAny_handlers_suite_as ?_
          refine HandSPX.lands_againZ fl3 fun h4 fl4 up4 => ?_
          have J4 : Inv X pins τ G { s' with heap := h4 } := J.landed nb fl4.1 ((up.trans up3).trans up4) os ag
          obtain ⟨ob4, vs4, at4, z4, dat4⟩ := fl4.there
          have S4 := J4.suite at4 dat4 na nLoc nFs
          refine store_ok (X := X.suite a ((a, ob4) :: (X.pn ++ pins))) (v := .ref a) S4 nd slot place rfl (fun s5 S5 => ?_) (.inr own)
          refine wpAny_mono ((walk2 a ob4 cls d (X.pn ++ pins) z4 ⟨_, dat4⟩).run [] s5 _ G _ S5 (hit rfl a na)) (fun fl s6 after => ?_) (fun _ _ z => False.elim z)
          have shut : ∀ {τ6 : L2.St} {G6 : Hp} {Q : Shared → Prop}, Inv (X.suite a ((a, ob4) :: (X.pn ++ pins))) [] τ6 G6 s6 → (∀ s7, Inv X pins (τ6.set i none) G6 s7 → Q s7) →
              wpAny (model X.prog X.w) X.A (do bindName X.env n .none; unbindBehindTheSuite X.env n p1) (fun _ s7 => Q s7) X.xe s6 := fun {τ6 G6 Q} S6 hq => gone_ok (S6.unsuite sound) nd slot own hq
          cases fl with
          | next =>
            obtain ⟨τ6, G6, S6, q6⟩ := after
            exact shut S6 fun s7 J7 => ⟨_, _, J7, q6⟩
          | brk =>
            obtain ⟨τ6, G6, S6, q6⟩ := after
            exact shut S6 fun s7 J7 => ⟨_, _, J7, q6⟩
          | cont =>
            obtain ⟨τ6, G6, S6, q6⟩ := after
            exact shut S6 fun s7 J7 => ⟨_, _, J7, q6⟩
          | ret u =>
            obtain ⟨v6, τ6, G6, S6, r6, q6⟩ := after
            exact shut S6 fun s7 J7 => ⟨_, _, _, J7, r6, q6⟩
    exact go clauses due
end
end Kp
end
section
set_option Elab.async false
set_option linter.all false
set_option maxRecDepth 100000
set_option maxHeartbeats 4000000
namespace Kp
open PySem L2

open Ka
section
variable {P : Program} {w : World} {K : PySem.W.Frag} {mg : Str → Option Value} {base : Heap}
def spTold (K : PySem.W.Frag) (PT : Addr) : Sp := fun vs H Q _ => ∃ (T : Ka.Tree) (lo k : Nat) (ws : List Str), vs = [.str (Txt.join ("\n" : Str) ws)] ∧ GxR.TabG H PT ∧
  ws.length ≤ 400 ∧ (∀ z ∈ ws, 10 ∉ z.cps.toList ∧ z.length ≤ 900) ∧ (Txt.join ("\n" : Str) ws).length ≤ 4000 ∧ Rows3 T lo k (cleanR ws) ∧
  ∀ (t : Addr) (H' : Hp), But [PT] H H' → H' t = some (.tup [.int (k : Nat), .str ("statement" : Str)]) → Q (.ref t) H'
theorem scN_told : FnScope ["text", "e"] ["text"] (defScope s_L_told) := ⟨rfl, rfl, rfl, by decide +kernel, rfl, by decide +kernel, by decide +kernel⟩
theorem ok_told {PT : Addr} (T : Tx K w mg) (G_progR : FnOk P w K mg base (L2.CX P w) 4 T.f_Program_init T.d_Program_init ["self", "text"] (spProgR K T.C_Program T.C_BadProgram PT)) : FnOk P w K mg base CX0 6 T.f_L_told T.d_L_told ["text"] (spTold K PT) := by
  refine T.L_told.F.ok scN_told (fun vs H Q E h => ?_) (fun cdv A outer s H vs Q E hr h => ?_)
  · obtain ⟨Tr, lo, k, ws, rfl, _⟩ := h
    rfl
  · obtain ⟨Tr, lo, k, ws, rfl, tab, wl, hz, hl4, R, q⟩ := h
    refine ⟨_, pss_cons (ps_try_manyAs (i := 1) rfl rfl scN_told.nd rfl rfl takes0
      (fun W pn xe tk _ => pss_one (ps_expr (pe_makeS T.Program_init.m G_progR hr (by rfl) T.g_Program T.Program_init.b (fun σ => passAt tk σ) (pa_cons (pv 0) pa_nil))))
      (.cons (c := .ref T.C_BadProgram) ⟨by rfl, by decide, .inl T.g_BadProgram⟩ (fun a oe cls d pn hz hf => pss_cons (ps_if (PW.pt (pw_and (pt_val (pe_isD T.ec_BadProgram hz hf (by rfl) T.B.isinstance (pa_cons (pv 1) (pa_cons (pe_glob (v := .ref T.C_ScopeError) rfl T.g_ScopeError rfl) pa_nil))))
          (pw_and1 (pt_val (pe_isD T.ec_BadProgram hz hf (by rfl) T.B.isinstance (pa_cons (pv 1) (pa_cons (pe_bltn (by rfl) T.z_ValueError (by decide +kernel) (v := .ty "ValueError") rfl) pa_nil)))))))
          (pss_one (ps_ret (pe_tup (pa_cons (pe_xf T.xf_BadProgram T.na_BadProgram_line hz hf (pv 1)) (pa_cons (pe_xf T.xf_BadProgram T.na_BadProgram_reason hz hf (pv 1)) pa_nil))))) pss_nil) pss_never)
      (.cons (c := .ref T.C_TooLong) ⟨by rfl, by decide, .inl T.g_TooLong⟩ (fun a oe cls d pn hz hf => pss_never) .nil))) pss_never, ?_⟩
    refine ⟨_, rfl, fun x dx hx hdx ne => ?_⟩
    have sX : Same H (upd (upd H dx (.own x)) x (.ins T.C_Program dx [])) := (same_new hdx _).trans (same_new (by rw [upd_ne ne.symm]; exact hx) _)
    have tX : GxR.TabG (upd (upd H dx (.own x)) x (.ins T.C_Program dx [])) PT := by
      obtain ⟨ps, e, r⟩ := tab
      exact ⟨ps, sX _ _ e, r⟩
    refine ⟨x, dx, Tr, lo, k, ws, rfl, upd_same, tX, wl, hz, hl4, R, fun d H1 b1 t1 ed => ?_⟩
    refine ⟨true, T.m_BadProgram, fun _ a ha => ?_, (fun u => nomatch u)⟩
    have two : ∀ (t : Addr), H1 t = none → But [PT] H (upd H1 t (.tup [.int (k : Nat), .str ("statement" : Str)])) := fun t ht c o hc hn => by
      have h1 := b1 c o (sX _ _ hc) (by
        simp only [List.mem_cons, List.not_mem_nil, or_false, not_or] at hn ⊢
        exact ⟨ne_of_none hc hx, hn⟩)
      rw [upd_ne (ne_of_none h1 ht)]; exact h1
    refine ⟨rfl, d, rfl, _, rfl, ⟨_, ed⟩, .ref T.C_ScopeError, .ref T.C_ScopeError, true, rfl, (fun u r => r), T.is_BadProgram, ?_⟩
    refine ⟨true, rfl, iteT (B := True) ?_⟩
    refine ⟨rfl, d, rfl, _, rfl, ⟨_, ed⟩, .ty "ValueError", .type "ValueError", true, rfl, (fun u r => r), T.iv_BadProgram, ?_⟩
    refine ⟨true, rfl, iteT (B := True) ?_⟩
    have l1 : ([(("reason" : Str), V.str ("statement" : Str)), (("line" : Str), V.int (k : Nat))] : List (Str × V)).lookup ("line" : Str) = some (.int (k : Nat)) := by
      rw [List.lookup_cons, show (("line" : Str) == ("reason" : Str)) = false by decide +kernel]
      rw [List.lookup_cons, show (("line" : Str) == ("line" : Str)) = true by decide +kernel]
    have l2 : ([(("reason" : Str), V.str ("statement" : Str)), (("line" : Str), V.int (k : Nat))] : List (Str × V)).lookup ("reason" : Str) = some (.str ("statement" : Str)) := by
      rw [List.lookup_cons, show (("reason" : Str) == ("reason" : Str)) = true by decide +kernel]
    exact ⟨_, rfl, rfl, rfl, d, _, _, rfl, ed, l1, _, rfl, rfl, rfl, d, _, _, rfl, ed, l2, by show 2 ≤ sizeLine; decide, fun t ht => q t _ (two t ht) upd_same⟩
end
end Kp
end
section
set_option Elab.async false
set_option linter.all false
set_option maxRecDepth 100000
set_option maxHeartbeats 4000000
namespace Kp
open PySem L2

open Ka Kd_
section
variable {P : Program} {w : World} {K : PySem.W.Frag} {mg : Str → Option Value} {base : Heap}
def toldP (PT : Addr) (H : Hp) (Q : VK) : (Option Nat × Nat) ⊕ Ka.Tree → Prop
  | .inr _ => ∀ H', But [PT] H H' → GxR.TabG H' PT → Q .non H'
  | .inl (k, r) => ∀ (t : Addr) (H' : Hp), But [PT] H H' → GxR.TabG H' PT → H' t = some (.tup [opV k, .str (reasonS r)]) → Q (.ref t) H'
def spToldA (K : PySem.W.Frag) (PT : Addr) : Sp := fun vs H Q _ => ∃ (os : List (Option Stm)) (ws : List Str), vs = [.str (Txt.join ("\n" : Str) ws)] ∧ GxR.TabG H PT ∧
  ws.length ≤ 4010 ∧ (∀ z ∈ ws, 10 ∉ z.cps.toList ∧ z.length ≤ 900) ∧ (Txt.join ("\n" : Str) ws).length ≤ 4000 ∧ SaysA (cleanR ws) os ∧ os.length ≤ 400 ∧ toldP PT H Q (outA os)
theorem ok_toldA {PT : Addr} (T : Tx K w mg) (G_progR : FnOk P w K mg base (L2.CX P w) 4 T.f_Program_init T.d_Program_init ["self", "text"] (spProgA K T.C_Program T.C_BadProgram PT)) : FnOk P w K mg base CX0 6 T.f_L_told T.d_L_told ["text"] (spToldA K PT) := by
  refine T.L_told.F.ok scN_told (fun vs H Q E h => ?_) (fun cdv A outer s H vs Q E hr h => ?_)
  · obtain ⟨os, ws, rfl, _⟩ := h
    rfl
  · obtain ⟨os, ws, rfl, tab, wl, hz, hl4, R, o4, q⟩ := h
    refine ⟨_, pss_cons (ps_try_manyAs (i := 1) rfl rfl scN_told.nd rfl rfl takes0
      (fun W pn xe tk _ => pss_one (ps_expr (pe_makeS T.Program_init.m G_progR hr (by rfl) T.g_Program T.Program_init.b (fun σ => passAt tk σ) (pa_cons (pv 0) pa_nil))))
      (.cons (c := .ref T.C_BadProgram) ⟨by rfl, by decide, .inl T.g_BadProgram⟩ (fun a oe cls d pn hz hf => pss_cons (ps_if (PW.pt (pw_and (pt_val (pe_isD T.ec_BadProgram hz hf (by rfl) T.B.isinstance (pa_cons (pv 1) (pa_cons (pe_glob (v := .ref T.C_ScopeError) rfl T.g_ScopeError rfl) pa_nil))))
          (pw_and1 (pt_val (pe_isD T.ec_BadProgram hz hf (by rfl) T.B.isinstance (pa_cons (pv 1) (pa_cons (pe_bltn (by rfl) T.z_ValueError (by decide +kernel) (v := .ty "ValueError") rfl) pa_nil)))))))
          (pss_one (ps_ret (pe_tup (pa_cons (pe_xf T.xf_BadProgram T.na_BadProgram_line hz hf (pv 1)) (pa_cons (pe_xf T.xf_BadProgram T.na_BadProgram_reason hz hf (pv 1)) pa_nil))))) pss_nil) pss_never)
      (.cons (c := .ref T.C_TooLong) ⟨by rfl, by decide, .inl T.g_TooLong⟩ (fun a oe cls d pn hz hf => pss_never) .nil))) (pss_one (ps_ret pe_non)), ?_⟩
    refine ⟨_, rfl, fun x dx hx hdx ne => ?_⟩
    have sX : Same H (upd (upd H dx (.own x)) x (.ins T.C_Program dx [])) := (same_new hdx _).trans (same_new (by rw [upd_ne ne.symm]; exact hx) _)
    have tX : GxR.TabG (upd (upd H dx (.own x)) x (.ins T.C_Program dx [])) PT := by
      obtain ⟨ps, e, r⟩ := tab
      exact ⟨ps, sX _ _ e, r⟩
    have back : ∀ {H1 : Hp}, But [x, PT] (upd (upd H dx (.own x)) x (.ins T.C_Program dx [])) H1 → But [PT] H H1 := fun {H1} b1 c o hc hn => b1 c o (sX _ _ hc) (by
      simp only [List.mem_cons, List.not_mem_nil, or_false, not_or] at hn ⊢
      exact ⟨ne_of_none hc hx, hn⟩)
    refine ⟨x, dx, os, ws, rfl, upd_same, tX, wl, hz, hl4, R, o4, ?_⟩
    cases hO : outA os with
    | inr Tr =>
      rw [hO] at q
      intro H1 b1 t1 prog
      exact ⟨rfl, q H1 (back b1) t1⟩
    | inl e =>
    obtain ⟨k, r⟩ := e
    rw [hO] at q
    intro d H1 b1 t1 hd ed
    refine ⟨true, T.m_BadProgram, fun _ a ha => ?_, (fun u => nomatch u)⟩
    refine ⟨rfl, d, rfl, _, rfl, ⟨_, ed⟩, .ref T.C_ScopeError, .ref T.C_ScopeError, true, rfl, (fun u r => r), T.is_BadProgram, ?_⟩
    refine ⟨true, rfl, iteT (B := True) ?_⟩
    refine ⟨rfl, d, rfl, _, rfl, ⟨_, ed⟩, .ty "ValueError", .type "ValueError", true, rfl, (fun u r => r), T.iv_BadProgram, ?_⟩
    refine ⟨true, rfl, iteT (B := True) ?_⟩
    have l1 : ([(("reason" : Str), V.str (reasonS r)), (("line" : Str), opV k)] : List (Str × V)).lookup ("line" : Str) = some (opV k) := by
      rw [List.lookup_cons, show (("line" : Str) == ("reason" : Str)) = false by decide +kernel]
      rw [List.lookup_cons, show (("line" : Str) == ("line" : Str)) = true by decide +kernel]
    have l2 : ([(("reason" : Str), V.str (reasonS r)), (("line" : Str), opV k)] : List (Str × V)).lookup ("reason" : Str) = some (.str (reasonS r)) := by
      rw [List.lookup_cons, show (("reason" : Str) == ("reason" : Str)) = true by decide +kernel]
    refine ⟨_, rfl, rfl, rfl, d, _, _, rfl, ed, l1, _, rfl, rfl, rfl, d, _, _, rfl, ed, l2, by show 2 ≤ sizeLine; decide, fun t ht => ?_⟩
    have b2 := back b1
    refine q t _ (fun c o hc hn => ?_) ?_ upd_same
    · have h1 := b2 c o hc hn
      rw [upd_ne (ne_of_none h1 ht)]; exact h1
    · obtain ⟨ps, e, z⟩ := t1
      exact ⟨ps, by rw [upd_ne (ne_of_none e ht)]; exact e, z⟩
end
end Kp
end
section
set_option Elab.async false
set_option linter.all false
set_option maxRecDepth 100000
set_option maxHeartbeats 4000000
namespace Kp
open PySem L2

open Ka Kd_
/-! The law's own reading of the lines. -/
def rowO : Option Stm → Str
  | none => "?"
  | some s => s.txt
/-- the lines that the law draws -/
def drL : List (Option Stm) := [some .block, some .fin, some .iff, some .els, some .whl, some .fin, some (.pl (.pair 120 121 122)), some (.pl (.num 97 5)), some (.pl (.prt 120)), none]
def kwF : Fr → Str
  | .iff _ => "if"
  | _ => "other"
def dkS : List Fr → List Str
  | [] => ["whole"]
  | f :: fs => dkS fs ++ [kwF f]
def dsS : List Fr → List Nat
  | [] => [0]
  | f :: fs => dsS fs ++ [(flatS (f :: fs) []).length - 1]
theorem dk_len (fs : List Fr) : (dkS fs).length = fs.length + 1 := by
  induction fs with
  | nil => rfl
  | cons f fs ih => show (dkS fs ++ [kwF f]).length = _; rw [List.length_append, ih]; rfl
theorem ds_len (fs : List Fr) : (dsS fs).length = fs.length + 1 := by
  induction fs with
  | nil => rfl
  | cons f fs ih => show (dsS fs ++ [_]).length = _; rw [List.length_append, ih]; rfl
def topS : List Fr → Str
  | [] => "whole"
  | f :: _ => kwF f
theorem dk_last (fs : List Fr) : atI ((dkS fs).map V.str) (-1) = some (.str (topS fs)) := by
  have h : ∃ init : List V, (dkS fs).map V.str = init ++ [.str (topS fs)] ∧ init.length = fs.length := by
    cases fs with
    | nil => exact ⟨[], rfl, rfl⟩
    | cons f fs => exact ⟨(dkS fs).map V.str, by show (dkS fs ++ [kwF f]).map V.str = _; rw [List.map_append]; rfl, by rw [List.length_map, dk_len]; rfl⟩
  obtain ⟨init, e, el⟩ := h
  rw [e]
  unfold atI
  rw [show ixN (init ++ [V.str (topS fs)]).length (-1) = some init.length by
    unfold ixN
    rw [if_neg (by omega), List.length_append, List.length_singleton, if_pos (by omega)]
    congr 1
    omega]
  show (init ++ [_])[init.length]? = _
  rw [List.getElem?_append_right (Nat.le_refl _), Nat.sub_self]; rfl
theorem snoc_pop {α β : Type} (g : α → β) (xs : List α) (x : α) : ((xs ++ [x]).map g)[((xs ++ [x]).map g).length - 1]? = some (g x) ∧ ((xs ++ [x]).map g).dropLast = xs.map g := by
  rw [List.map_append]
  refine ⟨?_, ?_⟩
  · rw [List.length_append, List.map_singleton, List.length_singleton, Nat.add_sub_cancel, List.getElem?_append_right (Nat.le_refl _), Nat.sub_self]; rfl
  · rw [List.map_singleton, List.dropLast_concat]
theorem dk_pop (f : Fr) (fs : List Fr) : ((dkS (f :: fs)).map V.str)[((dkS (f :: fs)).map V.str).length - 1]? = some (.str (kwF f)) ∧ ((dkS (f :: fs)).map V.str).dropLast = (dkS fs).map V.str := snoc_pop V.str (dkS fs) (kwF f)
theorem ds_pop (f : Fr) (fs : List Fr) : ((dsS (f :: fs)).map fun n => V.int (n : Nat))[((dsS (f :: fs)).map fun n => V.int (n : Nat)).length - 1]? = some (.int ((flatS (f :: fs) []).length - 1 : Nat)) ∧ ((dsS (f :: fs)).map fun n => V.int (n : Nat)).dropLast = (dsS fs).map fun n => V.int (n : Nat) := snoc_pop (fun n => V.int (n : Nat)) (dsS fs) _
section
variable {P : Program} {w : World} {K : PySem.W.Frag} {mg : Str → Option Value} {base : Heap}
/-- what is said of the lines: nothing, or which line and why -/
def sayP (PT : Addr) (H : Hp) (Q : VK) : (Nat × Nat) ⊕ Ka.Tree → Prop
  | .inr _ => ∀ H', Same H H' → Q .non H'
  | .inl (k, r) => ∀ (t : Addr) (H' : Hp), Same H H' → H' t = some (.tup [.int (k : Nat), .str (reasonS r)]) → Q (.ref t) H'
def spDue (PT : Addr) : Sp := fun vs H Q _ => ∃ (l : Addr) (os : List (Option Stm)), vs = [.ref l] ∧ H l = some (.lst ((os.map rowO).map V.str)) ∧ (∀ o ∈ os, o ∈ drL) ∧ os.length ≤ 100 ∧ sayP PT H Q (outL os)
theorem scN_due : FnScope ["lines", "kinds", "starts", "k", "line"] ["lines"] (defScope s_L_due) := ⟨rfl, rfl, rfl, by decide +kernel, rfl, by decide +kernel, by decide +kernel⟩
theorem ok_due {PT : Addr} (T : Tx K w mg) : FnOk P w K mg base CX0 1 T.f_L_due T.d_L_due ["lines"] (spDue PT) := by
  refine T.L_due.F.ok scN_due (fun vs H Q E h => ?_) (fun cdv A outer s H vs Q E hr h => ?_)
  · obtain ⟨l, os, rfl, _⟩ := h
    rfl
  · obtain ⟨l, os, rfl, hl, hdr, o100, q⟩ := h
    refine ⟨_, (pss_cons (ps_set (i := 1) scN_due.nd rfl (.inl rfl) (pe_lst (pa_cons pe_str pa_nil)))
        (pss_cons (ps_set (i := 2) scN_due.nd rfl (.inl rfl) (pe_lst (pa_cons pe_int pa_nil)))
        (pss_cons (ps_for PassesOwn.never rfl (pi_range1 rfl T.B.range (pa_cons (pe_callB call_len_seq (by rfl) T.B.len PySem.boot_len (pa_cons (pv 0) pa_nil)) pa_nil)) (pg_name (i := 3) scN_due.nd rfl (.inl rfl)) (pss_cons (ps_set (i := 4) scN_due.nd rfl (.inl rfl) (pe_ix ix_list (pv 0) (pv 3) (fun _ _ => rfl)))
        (pss_cons (ps_if (pt_cmpR op_eq (pv 4) pe_str (nomark _)) (pss_one (ps_ret (pe_tup (pa_cons (pv 3) (pa_cons pe_str pa_nil))))) pss_nil)
        (pss_cons (ps_if (PW.pt (pw_and (pt_cmpR op_eq (pv 4) pe_str (nomark _)) (pw_and1 (pt_cmpR op_ne (pe_ix ix_list (pv 1) (pe_un un_neg pe_int) (fun _ _ => rfl)) pe_str (nomark _))))) (pss_one (ps_ret (pe_tup (pa_cons (pv 3) (pa_cons pe_str pa_nil))))) pss_nil)
        (pss_cons (ps_if (PW.pt (pw_and (pt_cmpR op_eq (pv 4) pe_str (nomark _)) (pw_and1 (pt_cmpR op_eq (pe_ix ix_list (pv 1) (pe_un un_neg pe_int) (fun _ _ => rfl)) pe_str (nomark _))))) (pss_one (ps_ret (pe_tup (pa_cons (pv 3) (pa_cons pe_str pa_nil))))) pss_nil)
        (pss_cons (ps_if (PW.pt (pw_and (pt_cmpR op_eq (pv 4) pe_str (nomark _)) (pw_and1 (pt_cmpR op_eq (pe_ix ix_list (pv 1) (pe_un un_neg pe_int) (fun _ _ => rfl)) pe_str (nomark _))))) (pss_one (ps_ret (pe_tup (pa_cons (pv 3) (pa_cons pe_str pa_nil))))) pss_nil)
        (pss_cons (ps_if (pt_cmpR op_in_seq (pv 4) (pe_lst (pa_cons pe_str (pa_cons pe_str pa_nil))) (by rfl)) (pss_cons (ps_expr (pe_bm0 PySem.F.plainAttrs_list PySem.F.slot_list_pop PySem.F.type_list_pop mt_pop (pv 1)))
        (pss_one (ps_expr (pe_bm0 PySem.F.plainAttrs_list PySem.F.slot_list_pop PySem.F.type_list_pop mt_pop (pv 2))))) pss_nil)
        (pss_one (ps_if (pt_cmpR op_in_seq (pv 4) (pe_lst (pa_cons pe_str (pa_cons pe_str (pa_cons pe_str (pa_cons pe_str pa_nil))))) (by rfl)) (pss_cons (ps_expr (pe_bm PySem.F.plainAttrs_list PySem.F.slot_list_append PySem.F.type_list_append mt_append (pv 1) (pa_cons (pe_ifExp (pt_cmpR op_eq (pv 4) pe_str (nomark _)) pe_str pe_str) pa_nil)))
        (pss_one (ps_expr (pe_bm PySem.F.plainAttrs_list PySem.F.slot_list_append PySem.F.type_list_append mt_append (pv 2) (pa_cons (pv 3) pa_nil))))) pss_nil)))))))))
        (pss_one (ps_ret (pe_ifExp (pt_cmpR op_eq (pe_callB call_len_seq (by rfl) T.B.len PySem.boot_len (pa_cons (pv 1) pa_nil)) pe_int (nomark _)) pe_non (pe_tup (pa_cons (pe_ix ix_list (pv 2) (pe_un un_neg pe_int) (fun _ _ => rfl)) (pa_cons pe_str pa_nil))))))))), ?_⟩
    refine ⟨by show 1 ≤ sizeLine; decide, fun K1 hK1 => ?_⟩
    have r1 := same_new hK1 (.lst [.str "whole"])
    refine ⟨by show 1 ≤ sizeLine; decide, fun S1 hS1 => ?_⟩
    have r2 := same_new hS1 (.lst [.int 0])
    have eK := r2 _ _ (upd_same (H := H) (a := K1) (o := .lst [.str "whole"]))
    have eS := upd_same (H := upd H K1 (.lst [.str "whole"])) (a := S1) (o := .lst [.int 0])
    have s12 := r1.trans r2
    have hSH : H S1 = none := r1.free hS1
    have nSK : S1 ≠ K1 := new_ne_of hS1 (upd_same (H := H) (a := K1) (o := .lst [.str "whole"]))
    generalize upd (upd H K1 (.lst [.str "whole"])) S1 (.lst [.int 0]) = H1 at eK eS s12 ⊢
    have zl : ((os.map rowO).map V.str).length = os.length := by rw [List.length_map, List.length_map]
    refine ⟨_, rfl, l, _, rfl, .inl (SqL.of (s12 _ _ hl)), _, rfl, by rw [zl]; omega, by rw [zl]; omega, ?_⟩
    rw [zl]
    refine for_range (lo := 0) (n := os.length) (fun i σ' H' => ∃ (v3 v4 : Option V) (fs : List Fr) (Tr : Ka.Tree), σ' = [some (.ref l), some (.ref K1), some (.ref S1), v3, v4] ∧ Same H H' ∧ H' K1 = some (.lst ((dkS fs).map V.str)) ∧ H' S1 = some (.lst ((dsS fs).map fun n => V.int (n : Nat))) ∧ parse 0 ([], .nil) (os.take i) = .inr (fs, Tr) ∧ fs.length ≤ i) ⟨none, none, [], .nil, rfl, s12, eK, eS, rfl, Nat.zero_le _⟩ ?_ ?_
    · rintro i σ' H2 hi ⟨v3, v4, fs, Tr, rfl, s2, hK2, hS2, hp, fl⟩
      have oi : os[i]? = some os[i] := List.getElem?_eq_getElem hi
      have di := hdr _ (List.mem_of_getElem? oi)
      have zi : ((os.map rowO).map V.str)[i]? = some (.str (rowO os[i])) := by rw [List.getElem?_map, List.getElem?_map, oi]; rfl
      refine ⟨_, rfl, _, rfl, l, _, _, _, rfl, rfl, SqL.of (s2 _ _ hl), at_of (j := i) (by omega) zi, ?_⟩
      have tk : os.take (i + 1) = os.take i ++ [os[i]] := take_snoc oi
      generalize os[i] = o at oi di tk ⊢
      have hnone : o ≠ none → True := fun _ => trivial
      cases o with
      | none =>
        refine ⟨_, rfl, rfl, _, rfl, ?_⟩
        refine iteT (B := True) ?_
        refine ⟨_, rfl, by show 2 ≤ sizeLine; decide, fun t ht => ?_⟩
        have eo : outL os = .inl (i, 3) := by
          unfold outL
          rw [parse_more' hp (by omega), List.drop_eq_getElem_cons hi, show os[i] = none by
            have := List.getElem?_eq_getElem hi
            rw [oi] at this; exact (Option.some.inj this).symm]
          rfl
        rw [eo] at q
        rw [Int.zero_add]
        exact q t _ (s2.trans (same_new ht _)) upd_same
      | some s =>
        have ns : decide (V.str s.txt = V.str "?") = false := by
          simp only [drL, List.mem_cons, Option.some.injEq, List.not_mem_nil, or_false, reduceCtorEq] at di
          rcases di with rfl | rfl | rfl | rfl | rfl | rfl | rfl | rfl | rfl <;> decide +kernel
        refine ⟨_, rfl, rfl, _, rfl, ?_⟩
        rw [show rowO (some s) = s.txt from rfl, ns]
        refine iteF (A := True) ?_
        have ps : parse 0 ([], .nil) (os.take (i + 1)) = parse i (fs, Tr) [some s] := by
          have h := parse_snoc (o := some s) hp
          rw [tk, h, List.length_take, Nat.min_eq_left (by omega), Nat.zero_add]
        have stop : step (fs, Tr) s = none → outL os = .inl (i, why fs s) := fun hn => by
          unfold outL
          rw [parse_more' hp (by omega), List.drop_eq_getElem_cons hi, show os[i] = some s by
            have := List.getElem?_eq_getElem hi
            rw [oi] at this; exact (Option.some.inj this).symm, parse_no hn]
        have go : ∀ t, step (fs, Tr) s = some t → parse 0 ([], .nil) (os.take (i + 1)) = .inr t := fun t ht => by rw [ps, parse_yes ht]; rfl
        have len : (flatS fs Tr.flat).length = i := by
          obtain ⟨ss, e1, e2⟩ := parse_told hp
          have e2 : flatS fs Tr.flat = ss := by simpa [flatS, Ka.Tree.flat] using e2
          have := congrArg List.length e1
          rw [List.length_take, List.length_map, Nat.min_eq_left (by omega)] at this
          rw [e2]; omega
        have cat : s = .els ∨ s = .fin ∨ (decide (V.str s.txt = V.str "} else {") = false ∧ decide (V.str s.txt = V.str "}") = false ∧ inV (V.str s.txt) [.str "}", .str "} else {"] = false ∧
            ((inV (V.str s.txt) [.str "{", .str "if ? {", .str "while ? {", .str "} else {"] = false ∧ ∃ U, step (fs, Tr) s = some (fs, U)) ∨ 
             (inV (V.str s.txt) [.str "{", .str "if ? {", .str "while ? {", .str "} else {"] = true ∧ ∃ f, step (fs, Tr) s = some (f :: fs, .nil) ∧ (if decide (V.str s.txt = V.str "if ? {") = true then ("if" : Str) else "other") = kwF f))) := by
          simp only [drL, List.mem_cons, Option.some.injEq, List.not_mem_nil, or_false, reduceCtorEq] at di
          rcases di with rfl | rfl | rfl | rfl | rfl | rfl | rfl | rfl | rfl
          · exact .inr (.inr ⟨by decide +kernel, by decide +kernel, by decide +kernel, .inr ⟨by decide +kernel, _, rfl, by show _ = ("other" : Str); decide +kernel⟩⟩)
          · exact .inr (.inl rfl)
          · exact .inr (.inr ⟨by decide +kernel, by decide +kernel, by decide +kernel, .inr ⟨by decide +kernel, _, rfl, by show _ = ("if" : Str); decide +kernel⟩⟩)
          · exact .inl rfl
          · exact .inr (.inr ⟨by decide +kernel, by decide +kernel, by decide +kernel, .inr ⟨by decide +kernel, _, rfl, by show _ = ("other" : Str); decide +kernel⟩⟩)
          · exact .inr (.inl rfl)
          · exact .inr (.inr ⟨by decide +kernel, by decide +kernel, by decide +kernel, .inl ⟨by decide +kernel, _, rfl⟩⟩)
          · exact .inr (.inr ⟨by decide +kernel, by decide +kernel, by decide +kernel, .inl ⟨by decide +kernel, _, rfl⟩⟩)
          · exact .inr (.inr ⟨by decide +kernel, by decide +kernel, by decide +kernel, .inl ⟨by decide +kernel, _, rfl⟩⟩)
        rcases cat with rfl | rfl | ⟨e1, e2, e3, cat⟩
        · refine ⟨_, rfl, rfl, _, rfl, ?_⟩
          rw [show decide (V.str Stm.els.txt = V.str "} else {") = true by decide +kernel]
          refine iteT (B := True) ?_
          refine ⟨_, rfl, 1, rfl, K1, _, -1, _, rfl, rfl, SqL.of hK2, dk_last fs, rfl, _, rfl, ?_⟩
          have bad : topS fs ≠ "if" → step (fs, Tr) .els = none := fun h => by
            cases fs with
            | nil => rfl
            | cons f fs =>
              cases f with
              | iff l => exact absurd rfl h
              | _ => rfl
          by_cases hif : topS fs = ("if" : Str)
          · rw [hif, decide_eq_true rfl]
            refine iteF (A := True) ?_
            obtain ⟨l1, fs, rfl⟩ : ∃ l1 fs', fs = .iff l1 :: fs' := by
              cases fs with
              | nil => exact absurd hif (by decide +kernel)
              | cons f fs =>
                cases f with
                | iff l1 => exact ⟨l1, fs, rfl⟩
                | _ => exact absurd hif (by show ("other" : Str) ≠ "if"; decide +kernel)
            rw [List.length_cons] at fl
            refine ⟨_, rfl, rfl, _, rfl, ?_⟩
            rw [show decide (V.str Stm.els.txt = V.str "}") = false by decide +kernel]
            refine iteF (A := True) (iteF (A := True) ?_)
            refine ⟨_, rfl, rfl, _, rfl, ?_⟩
            rw [show decide (V.str Stm.els.txt = V.str "}") = false by decide +kernel]
            refine iteF (A := True) (iteF (A := True) ?_)
            refine ⟨_, rfl, by show 2 ≤ sizeLine; decide, fun q1 hq1 => ⟨q1, _, rfl, .inl (SqL.of upd_same), rfl, rfl, _, rfl, ?_⟩⟩
            have n1 := same_new hq1 (.lst [.str "}", .str "} else {"])
            rw [if_neg Bool.false_ne_true, show inV (V.str Stm.els.txt) [.str "}", .str "} else {"] = true by decide +kernel]
            refine iteT (B := True) ?_
            have hK3 := n1 _ _ hK2
            have hS3 := n1 _ _ hS2
            have s3 := s2.trans n1
            generalize upd H2 q1 (.lst [.str "}", .str "} else {"]) = H3 at hK3 hS3 s3 ⊢
            refine ⟨_, rfl, .inl ⟨rfl, _, SqL.of hK3⟩, K1, _, _, rfl, rfl, hK3, (dk_pop _ _).1, ?_⟩
            rw [(dk_pop _ _).2]
            refine ⟨_, rfl, .inl ⟨rfl, _, SqL.of (by rw [upd_ne nSK]; exact hS3)⟩, S1, _, _, rfl, rfl, by rw [upd_ne nSK]; exact hS3, (ds_pop _ _).1, ?_⟩
            rw [(ds_pop _ _).2]
            have hK4 : upd (upd H3 K1 (.lst ((dkS fs).map V.str))) S1 (.lst ((dsS fs).map fun n => V.int (n : Nat))) K1 = some (.lst ((dkS fs).map V.str)) := by rw [upd_ne nSK.symm, upd_same]
            have hS4 : upd (upd H3 K1 (.lst ((dkS fs).map V.str))) S1 (.lst ((dsS fs).map fun n => V.int (n : Nat))) S1 = some (.lst ((dsS fs).map fun n => V.int (n : Nat))) := upd_same
            have s4 : Same H (upd (upd H3 K1 (.lst ((dkS fs).map V.str))) S1 (.lst ((dsS fs).map fun n => V.int (n : Nat)))) := fun c o hc => by
              rw [upd_ne (ne_of_none hc hSH), upd_ne (ne_of_none hc hK1)]; exact s3 _ _ hc
            generalize upd (upd H3 K1 (.lst ((dkS fs).map V.str))) S1 (.lst ((dsS fs).map fun n => V.int (n : Nat))) = H4 at hK4 hS4 s4 ⊢
            refine ⟨_, rfl, by show 4 ≤ sizeLine; decide, fun q2 hq2 => ⟨q2, _, rfl, .inl (SqL.of upd_same), rfl, rfl, _, rfl, ?_⟩⟩
            have n2 := same_new hq2 (.lst [.str "{", .str "if ? {", .str "while ? {", .str "} else {"])
            rw [if_neg Bool.false_ne_true, show inV (V.str Stm.els.txt) [.str "{", .str "if ? {", .str "while ? {", .str "} else {"] = true by decide +kernel]
            refine iteT (B := True) ?_
            have hK5 := n2 _ _ hK4
            have hS5 := n2 _ _ hS4
            have s5 := s4.trans n2
            generalize upd H4 q2 (.lst [.str "{", .str "if ? {", .str "while ? {", .str "} else {"]) = H5 at hK5 hS5 s5 ⊢
            have hU : step (.iff l1 :: fs, Tr) .els = some (.els l1 Tr :: fs, .nil) := rfl
            have fl1 : (flatS (.els l1 Tr :: fs) []).length - 1 = i := by
              have h := congrArg List.length (step_flat hU)
              rw [List.length_append, len] at h
              have h : (flatS (.els l1 Tr :: fs) []).length = i + 1 := h
              omega
            refine ⟨_, rfl, .inl ⟨rfl, _, SqL.of hK5⟩, _, rfl, rfl, _, rfl, ?_⟩
            rw [show decide (V.str Stm.els.txt = V.str "if ? {") = false by decide +kernel]
            refine iteF (A := True) ?_
            refine ⟨K1, _, _, rfl, rfl, hK5, by rw [List.length_map, dk_len]; exact small1000 (by omega), ?_⟩
            refine ⟨_, rfl, .inl ⟨rfl, _, SqL.of (by rw [upd_ne nSK]; exact hS5)⟩, _, rfl, S1, _, _, rfl, rfl, by rw [upd_ne nSK]; exact hS5, by rw [List.length_map, ds_len]; exact small1000 (by omega), ?_⟩
            refine ⟨_, _, .els l1 Tr :: fs, .nil, rfl, fun c o hc => ?_, ?_, ?_, go _ hU, by rw [List.length_cons]; omega⟩
            · rw [upd_ne (ne_of_none hc hSH), upd_ne (ne_of_none hc hK1)]; exact s5 _ _ hc
            · rw [upd_ne nSK.symm, upd_same]; show _ = some (HO.lst ((dkS fs ++ [kwF (.els l1 Tr)]).map V.str)); rw [List.map_append]; rfl
            · rw [upd_same]; show _ = some (HO.lst ((dsS fs ++ [(flatS (.els l1 Tr :: fs) []).length - 1]).map fun n => V.int (n : Nat))); rw [fl1, Int.zero_add, List.map_append]; rfl
          · rw [decide_eq_false (fun z => hif (V.str.inj z))]
            refine iteT (B := True) ?_
            refine ⟨_, rfl, by show 2 ≤ sizeLine; decide, fun t ht => ?_⟩
            rw [stop (bad hif)] at q
            rw [Int.zero_add]
            exact q t _ (s2.trans (same_new ht _)) upd_same
        · refine ⟨_, rfl, rfl, _, rfl, ?_⟩
          rw [show decide (V.str Stm.fin.txt = V.str "} else {") = false by decide +kernel]
          refine iteF (A := True) (iteF (A := True) ?_)
          refine ⟨_, rfl, rfl, _, rfl, ?_⟩
          rw [show decide (V.str Stm.fin.txt = V.str "}") = true by decide +kernel]
          refine iteT (B := True) ?_
          refine ⟨_, rfl, 1, rfl, K1, _, -1, _, rfl, rfl, SqL.of hK2, dk_last fs, rfl, _, rfl, ?_⟩
          cases fs with
          | nil =>
            rw [show decide (V.str (topS []) = V.str "whole") = true by decide +kernel]
            refine iteT (B := True) ?_
            refine ⟨_, rfl, by show 2 ≤ sizeLine; decide, fun t ht => ?_⟩
            rw [stop rfl] at q
            rw [Int.zero_add]
            exact q t _ (s2.trans (same_new ht _)) upd_same
          | cons f fs =>
            rw [List.length_cons] at fl
            rw [show decide (V.str (topS (f :: fs)) = V.str "whole") = false by
              cases f with
              | iff l => show decide (V.str "if" = V.str "whole") = false; decide +kernel
              | blk w l => show decide (V.str "other" = V.str "whole") = false; decide +kernel
              | els l a => show decide (V.str "other" = V.str "whole") = false; decide +kernel]
            refine iteF (A := True) ?_
            refine ⟨_, rfl, rfl, _, rfl, ?_⟩
            rw [show decide (V.str Stm.fin.txt = V.str "}") = true by decide +kernel]
            refine iteT (B := True) ?_
            refine ⟨_, rfl, 1, rfl, K1, _, -1, _, rfl, rfl, SqL.of hK2, dk_last _, rfl, _, rfl, ?_⟩
            by_cases hif : topS (f :: fs) = ("if" : Str)
            · rw [hif, decide_eq_true rfl]
              refine iteT (B := True) ?_
              refine ⟨_, rfl, by show 2 ≤ sizeLine; decide, fun t ht => ?_⟩
              rw [stop (by
                cases f with
                | iff l1 => rfl
                | _ => exact absurd hif (by show ("other" : Str) ≠ "if"; decide +kernel))] at q
              rw [Int.zero_add]
              exact q t _ (s2.trans (same_new ht _)) upd_same
            rw [decide_eq_false (fun z => hif (V.str.inj z))]
            refine iteF (A := True) ?_
            obtain ⟨U, hU⟩ : ∃ U, step (f :: fs, Tr) .fin = some (fs, U) := by
              cases f with
              | iff l1 => exact absurd rfl hif
              | blk w l => exact ⟨_, rfl⟩
              | els l a => exact ⟨_, rfl⟩
            refine ⟨_, rfl, by show 2 ≤ sizeLine; decide, fun q1 hq1 => ⟨q1, _, rfl, .inl (SqL.of upd_same), rfl, rfl, _, rfl, ?_⟩⟩
            have n1 := same_new hq1 (.lst [.str "}", .str "} else {"])
            rw [if_neg Bool.false_ne_true, show inV (V.str Stm.fin.txt) [.str "}", .str "} else {"] = true by decide +kernel]
            refine iteT (B := True) ?_
            have hK3 := n1 _ _ hK2
            have hS3 := n1 _ _ hS2
            have s3 := s2.trans n1
            generalize upd H2 q1 (.lst [.str "}", .str "} else {"]) = H3 at hK3 hS3 s3 ⊢
            refine ⟨_, rfl, .inl ⟨rfl, _, SqL.of hK3⟩, K1, _, _, rfl, rfl, hK3, (dk_pop _ _).1, ?_⟩
            rw [(dk_pop _ _).2]
            refine ⟨_, rfl, .inl ⟨rfl, _, SqL.of (by rw [upd_ne nSK]; exact hS3)⟩, S1, _, _, rfl, rfl, by rw [upd_ne nSK]; exact hS3, (ds_pop _ _).1, ?_⟩
            rw [(ds_pop _ _).2]
            have hK4 : upd (upd H3 K1 (.lst ((dkS fs).map V.str))) S1 (.lst ((dsS fs).map fun n => V.int (n : Nat))) K1 = some (.lst ((dkS fs).map V.str)) := by rw [upd_ne nSK.symm, upd_same]
            have hS4 : upd (upd H3 K1 (.lst ((dkS fs).map V.str))) S1 (.lst ((dsS fs).map fun n => V.int (n : Nat))) S1 = some (.lst ((dsS fs).map fun n => V.int (n : Nat))) := upd_same
            have s4 : Same H (upd (upd H3 K1 (.lst ((dkS fs).map V.str))) S1 (.lst ((dsS fs).map fun n => V.int (n : Nat)))) := fun c o hc => by
              rw [upd_ne (ne_of_none hc hSH), upd_ne (ne_of_none hc hK1)]; exact s3 _ _ hc
            generalize upd (upd H3 K1 (.lst ((dkS fs).map V.str))) S1 (.lst ((dsS fs).map fun n => V.int (n : Nat))) = H4 at hK4 hS4 s4 ⊢
            refine ⟨_, rfl, by show 4 ≤ sizeLine; decide, fun q2 hq2 => ⟨q2, _, rfl, .inl (SqL.of upd_same), rfl, rfl, _, rfl, ?_⟩⟩
            have n2 := same_new hq2 (.lst [.str "{", .str "if ? {", .str "while ? {", .str "} else {"])
            rw [if_neg Bool.false_ne_true, show inV (V.str Stm.fin.txt) [.str "{", .str "if ? {", .str "while ? {", .str "} else {"] = false by decide +kernel]
            refine iteF (A := True) ?_
            exact ⟨_, _, fs, U, rfl, s4.trans n2, n2 _ _ hK4, n2 _ _ hS4, go _ hU, by omega⟩
        · refine ⟨_, rfl, rfl, _, rfl, ?_⟩
          rw [e1]
          refine iteF (A := True) (iteF (A := True) ?_)
          refine ⟨_, rfl, rfl, _, rfl, ?_⟩
          rw [e2]
          refine iteF (A := True) (iteF (A := True) ?_)
          refine ⟨_, rfl, rfl, _, rfl, ?_⟩
          rw [e2]
          refine iteF (A := True) (iteF (A := True) ?_)
          refine ⟨_, rfl, by show 2 ≤ sizeLine; decide, fun q1 hq1 => ⟨q1, _, rfl, .inl (SqL.of upd_same), rfl, rfl, _, rfl, ?_⟩⟩
          have n1 := same_new hq1 (.lst [.str "}", .str "} else {"])
          rw [if_neg Bool.false_ne_true, e3]
          refine iteF (A := True) ?_
          refine ⟨_, rfl, by show 4 ≤ sizeLine; decide, fun q2 hq2 => ⟨q2, _, rfl, .inl (SqL.of upd_same), rfl, rfl, _, rfl, ?_⟩⟩
          have n2 := same_new hq2 (.lst [.str "{", .str "if ? {", .str "while ? {", .str "} else {"])
          have s3 := (s2.trans n1).trans n2
          have hK3 := (n1.trans n2) _ _ hK2
          have hS3 := (n1.trans n2) _ _ hS2
          rcases cat with ⟨e4, U, hU⟩ | ⟨e4, f, hU, ef⟩
          · rw [if_neg Bool.false_ne_true, e4]
            refine iteF (A := True) ?_
            exact ⟨_, _, fs, U, rfl, s3, hK3, hS3, go _ hU, by omega⟩
          · rw [if_neg Bool.false_ne_true, e4]
            refine iteT (B := True) ?_
            have fl1 : (flatS (f :: fs) []).length - 1 = i := by
              have h := congrArg List.length (step_flat hU)
              rw [List.length_append, len] at h
              have h : (flatS (f :: fs) []).length = i + 1 := h
              omega
            have edk : ∀ z : Str, z = kwF f → (dkS fs).map V.str ++ [V.str z] = (dkS (f :: fs)).map V.str := fun z e => by
              rw [e]; show _ = (dkS fs ++ [kwF f]).map V.str; rw [List.map_append]; rfl
            have eds : ((dsS fs).map fun n => V.int (n : Nat)) ++ [V.int (0 + (i : Int))] = (dsS (f :: fs)).map fun n => V.int (n : Nat) := by
              show _ = (dsS fs ++ [(flatS (f :: fs) []).length - 1]).map fun n => V.int (n : Nat)
              rw [fl1, Int.zero_add, List.map_append]; rfl
            refine ⟨_, rfl, .inl ⟨rfl, _, SqL.of hK3⟩, _, rfl, rfl, _, rfl, ?_⟩
            have fin2 : ∀ (z : Str) (H4 : Hp), z = kwF f → H4 = upd (upd (upd (upd H2 q1 (.lst [.str "}", .str "} else {"])) q2 (.lst [.str "{", .str "if ? {", .str "while ? {", .str "} else {"])) K1 (.lst ((dkS fs).map V.str ++ [V.str z]))) S1 (.lst (((dsS fs).map fun n => V.int (n : Nat)) ++ [V.int (0 + (i : Int))])) →
                Same H H4 ∧ H4 K1 = some (.lst ((dkS (f :: fs)).map V.str)) ∧ H4 S1 = some (.lst ((dsS (f :: fs)).map fun n => V.int (n : Nat))) := fun z H4 ez eH => by
              subst eH
              refine ⟨fun c o hc => ?_, ?_, ?_⟩
              · rw [upd_ne (ne_of_none hc hSH), upd_ne (ne_of_none hc hK1)]; exact s3 _ _ hc
              · rw [upd_ne nSK.symm, upd_same, edk z ez]
              · rw [upd_same, eds]
            generalize decide (V.str s.txt = V.str "if ? {") = bb at ef ⊢
            cases bb with
            | false =>
              refine iteF (A := True) ?_
              refine ⟨K1, _, _, rfl, rfl, hK3, by rw [List.length_map, dk_len]; exact small1000 (by omega), ?_⟩
              refine ⟨_, rfl, .inl ⟨rfl, _, SqL.of (by rw [upd_ne nSK]; exact hS3)⟩, _, rfl, S1, _, _, rfl, rfl, by rw [upd_ne nSK]; exact hS3, by rw [List.length_map, ds_len]; exact small1000 (by omega), ?_⟩
              obtain ⟨g1, g2, g3⟩ := fin2 _ _ ef rfl
              exact ⟨_, _, f :: fs, .nil, rfl, g1, g2, g3, go _ hU, by rw [List.length_cons]; omega⟩
            | true =>
              refine iteT (B := True) ?_
              refine ⟨K1, _, _, rfl, rfl, hK3, by rw [List.length_map, dk_len]; exact small1000 (by omega), ?_⟩
              refine ⟨_, rfl, .inl ⟨rfl, _, SqL.of (by rw [upd_ne nSK]; exact hS3)⟩, _, rfl, S1, _, _, rfl, rfl, by rw [upd_ne nSK]; exact hS3, by rw [List.length_map, ds_len]; exact small1000 (by omega), ?_⟩
              obtain ⟨g1, g2, g3⟩ := fin2 _ _ ef rfl
              exact ⟨_, _, f :: fs, .nil, rfl, g1, g2, g3, go _ hU, by rw [List.length_cons]; omega⟩
    · rintro σ' H2 ⟨v3, v4, fs, Tr, rfl, s2, hK2, hS2, hp, fl⟩
      rw [List.take_length] at hp
      have eo : outL os = (match (fs, Tr) with | ([], T) => .inr T | (f :: fs, _) => .inl ((flatS (f :: fs) []).length - 1, 4)) := by
        unfold outL
        rw [hp]
        cases fs <;> rfl
      refine ⟨_, rfl, K1, _, rfl, .inl (SqL.of hK2), rfl, _, rfl, ?_⟩
      rw [List.length_map, dk_len]
      cases fs with
      | nil =>
        rw [eo] at q
        rw [decide_eq_true (show V.int (([] : List Fr).length + 1 : Nat) = V.int 1 from rfl)]
        refine iteT (B := True) ?_
        exact q _ s2
      | cons f fs =>
        rw [eo] at q
        rw [decide_eq_false (by rw [List.length_cons]; intro z; have z := V.int.inj z; omega)]
        refine iteF (A := True) ?_
        have la : atI ((dsS (f :: fs)).map fun n => V.int (n : Nat)) (-1) = some (.int ((flatS (f :: fs) []).length - 1 : Nat)) := by
          show atI ((dsS fs ++ [(flatS (f :: fs) []).length - 1]).map fun n => V.int (n : Nat)) (-1) = _
          rw [List.map_append]; exact atI_last _ _
        refine ⟨_, rfl, 1, rfl, S1, _, -1, _, rfl, rfl, SqL.of hS2, la, by show 2 ≤ sizeLine; decide, fun t ht => ?_⟩
        exact q t _ (s2.trans (same_new ht _)) upd_same
end
end Kp
end
section
set_option Elab.async false
set_option linter.all false
set_option maxRecDepth 100000
set_option maxHeartbeats 4000000
namespace Kp
open PySem L2

open Ka Kd_
/-- how a line changes the depth -/
def dpS : Stm → Int
  | .block | .iff | .whl => 1
  | .fin => -1
  | _ => 0
def dpF (ss : List Stm) (p : Int × Int) : Int × Int := ss.foldl (fun p s => (p.1 + dpS s, if p.1 + dpS s > p.2 then p.1 + dpS s else p.2)) p
theorem dpF_app (a b : List Stm) (p : Int × Int) : dpF (a ++ b) p = dpF b (dpF a p) := List.foldl_append ..
theorem dpF_cons (s : Stm) (b : List Stm) (p : Int × Int) : dpF (s :: b) p = dpF b (p.1 + dpS s, if p.1 + dpS s > p.2 then p.1 + dpS s else p.2) := rfl
theorem dpF_tree (T : Ka.Tree) : ∀ (d m : Int), d ≤ m → dpF T.flat (d, m) = (d, max m (d + (T.high : Nat))) := by
  induction T with
  | nil => intro d m h; show (d, m) = (d, max m (d + ((0 : Nat) : Int))); congr 1; omega
  | ln l r ih =>
    intro d m h
    show dpF (.pl l :: r.flat) (d, m) = (d, max m (d + (r.high : Nat)))
    rw [dpF_cons, show dpS (.pl l) = 0 from rfl]
    simp only [Int.add_zero]
    rw [if_neg (by omega), ih d m h]
  | blk w b r ihb ihr =>
    intro d m h
    have e1 : dpS (Ka.Tree.st w) = 1 := by cases w <;> rfl
    show dpF (Ka.Tree.st w :: (b.flat ++ .fin :: r.flat)) (d, m) = (d, max m (d + ((max (1 + b.high) r.high : Nat) : Int)))
    rw [dpF_cons, e1, dpF_app, dpF_cons, show dpS .fin = -1 from rfl]
    rw [ihb (d + 1) _ (by show d + 1 ≤ if d + 1 > m then d + 1 else m; split <;> omega)]
    simp only []
    rw [show d + 1 + -1 = d by omega, ihr d _ (by split <;> omega)]
    congr 1
    split <;> split <;> omega
  | br a b r iha ihb ihr =>
    intro d m h
    show dpF (.iff :: (a.flat ++ .els :: (b.flat ++ .fin :: r.flat))) (d, m) = (d, max m (d + ((max (max (1 + a.high) (1 + b.high)) r.high : Nat) : Int)))
    rw [dpF_cons, show dpS .iff = 1 from rfl, dpF_app, dpF_cons, show dpS .els = 0 from rfl, dpF_app, dpF_cons, show dpS .fin = -1 from rfl]
    rw [iha (d + 1) _ (by show d + 1 ≤ if d + 1 > m then d + 1 else m; split <;> omega)]
    simp only [Int.add_zero]
    rw [ihb (d + 1) _ (by split <;> omega)]
    simp only []
    rw [show d + 1 + -1 = d by omega, ihr d _ (by split <;> split <;> omega)]
    congr 1
    split <;> split <;> split <;> omega
section
variable {P : Program} {w : World} {K : PySem.W.Frag} {mg : Str → Option Value} {base : Heap}
def spDeep : Sp := fun vs H Q _ => ∃ (l : Addr) (T : Ka.Tree), vs = [.ref l] ∧ H l = some (.lst ((T.flat.map Stm.txt).map V.str)) ∧ (∀ s ∈ T.flat, some s ∈ drL) ∧ T.flat.length ≤ 100 ∧ ∀ H', Same H H' → Q (.int (T.high : Nat)) H'
theorem scN_deep : FnScope ["lines", "deep", "best", "line"] ["lines"] (defScope s_L_deepest) := ⟨rfl, rfl, rfl, by decide +kernel, rfl, by decide +kernel, by decide +kernel⟩
theorem ok_deep (T : Tx K w mg) : FnOk P w K mg base CX0 1 T.f_L_deepest T.d_L_deepest ["lines"] spDeep := by
  refine T.L_deepest.F.ok scN_deep (fun vs H Q E h => ?_) (fun cdv A outer s H vs Q E hr h => ?_)
  · obtain ⟨l, Tr, rfl, _⟩ := h
    rfl
  · obtain ⟨l, Tr, rfl, hl, hdr, o100, q⟩ := h
    refine ⟨_, (pss_cons (ps_set (i := 1) scN_deep.nd rfl (.inl rfl) pe_int)
        (pss_cons (ps_set (i := 2) scN_deep.nd rfl (.inl rfl) pe_int)
        (pss_cons (ps_for PassesOwn.never rfl (pi_list (pv 0)) (pg_name (i := 3) scN_deep.nd rfl (.inl rfl)) (pss_cons (ps_set (i := 1) scN_deep.nd rfl (.inl rfl) (pe_op op_sub (pe_op op_add (pv 1) (pe_callTy call_int1 (by rfl) T.B.int (by decide +kernel) (pa_cons (pe_cmpR op_in_seq (pv 3) (pe_lst (pa_cons pe_str (pa_cons pe_str (pa_cons pe_str pa_nil)))) (by rfl)) pa_nil))) (pe_callTy call_int1 (by rfl) T.B.int (by decide +kernel) (pa_cons (pe_cmpR op_eq (pv 3) pe_str (nomark _)) pa_nil))))
        (pss_one (ps_set (i := 2) scN_deep.nd rfl (.inl rfl) (pe_callB (call_max2 rfl) (by rfl) T.B.max (by decide +kernel) (pa_cons (pv 2) (pa_cons (pv 1) pa_nil)))))))
        (pss_one (ps_ret (pv 2)))))), ?_⟩
    refine ⟨_, rfl, l, rfl, ⟨_, SqL.of hl⟩, for_it (walk_list (xs := (Tr.flat.map Stm.txt).map V.str)) (fun i σ' H' => ∃ (v3 : Option V), σ' = [some (.ref l), some (.int (dpF (Tr.flat.take i) (0, 0)).1), some (.int (dpF (Tr.flat.take i) (0, 0)).2), v3] ∧ Same H H') ⟨none, rfl, Same.refl _⟩ ?_ ?_ ?_⟩
    · rintro i σ' H' _ ⟨_, _, s2⟩
      exact SqL.of (s2 _ _ hl)
    · rintro i y σ' H9 H2 hi ⟨v3, rfl, s2⟩ ⟨rfl, hx⟩
      rw [List.getElem?_map, List.getElem?_map] at hx
      obtain ⟨z, hz, rfl⟩ := Option.map_eq_some_iff.mp hx
      obtain ⟨s, hs, rfl⟩ := Option.map_eq_some_iff.mp hz
      have ds := hdr s (List.mem_of_getElem? hs)
      have sf : dpF (Tr.flat.take (i + 1)) (0, 0) = dpF [s] (dpF (Tr.flat.take i) (0, 0)) := by rw [take_snoc hs, dpF_app]
      have e1 : (if inV (V.str s.txt) [.str "{", .str "if ? {", .str "while ? {"] = true then (1 : Int) else 0) - (if decide (V.str s.txt = V.str "}") = true then (1 : Int) else 0) = dpS s := by
        simp only [drL, List.mem_cons, Option.some.injEq, List.not_mem_nil, or_false, reduceCtorEq] at ds
        rcases ds with rfl | rfl | rfl | rfl | rfl | rfl | rfl | rfl | rfl <;> decide +kernel
      rw [sf]
      generalize dpF (Tr.flat.take i) (0, 0) = p
      obtain ⟨d, m⟩ := p
      refine ⟨_, rfl, _, rfl, by show 3 ≤ sizeLine; decide, fun q1 hq1 => ⟨q1, _, rfl, .inl (SqL.of upd_same), rfl, rfl, .inr ⟨_, rfl, ?_⟩⟩⟩
      have n1 := same_new hq1 (.lst [.str "{", .str "if ? {", .str "while ? {"])
      rw [if_neg Bool.false_ne_true]
      refine ⟨_, _, rfl, rfl, _, rfl, rfl, .inr ⟨_, rfl, _, _, rfl, rfl, ?_⟩⟩
      refine ⟨_, rfl, _, rfl, _, _, rfl, ?_⟩
      refine ⟨some (.str s.txt), ?_, s2.trans n1⟩
      have e2 : ∀ a b : Int, a - b = dpS s → d + a - b = d + dpS s := fun a b h => by omega
      have e3 := e2 _ _ e1
      show [some (V.ref l), some (V.int (d + (if inV (V.str s.txt) [.str "{", .str "if ? {", .str "while ? {"] = true then (1 : Int) else 0) - (if decide (V.str s.txt = V.str "}") = true then (1 : Int) else 0))), some (V.int (if d + (if inV (V.str s.txt) [.str "{", .str "if ? {", .str "while ? {"] = true then (1 : Int) else 0) - (if decide (V.str s.txt = V.str "}") = true then (1 : Int) else 0) > m then d + (if inV (V.str s.txt) [.str "{", .str "if ? {", .str "while ? {"] = true then (1 : Int) else 0) - (if decide (V.str s.txt = V.str "}") = true then (1 : Int) else 0) else m)), some (V.str s.txt)] = _
      rw [e3]
      rfl
    · rintro σ' H2 ⟨v3, rfl, s2⟩
      have e := dpF_tree Tr 0 0 (by omega)
      rw [List.take_of_length_le (by rw [List.length_map, List.length_map]; exact Nat.le_refl _)]
      rw [e]
      refine ⟨_, rfl, ?_⟩
      rw [show max (0 : Int) (0 + (Tr.high : Nat)) = (Tr.high : Nat) by omega]
      exact q _ s2
end
end Kp
end
section
set_option Elab.async false
set_option linter.all false
set_option maxRecDepth 100000
set_option maxHeartbeats 4000000
namespace Kp
open PySem L2

section
open PySem.Spec PyProof.Rows
/-- isinstance(e, c), e the exception that the suite holds, of the class at D, without a dict of its own -/
theorem pe_isHeld {X : Cx} {a D : Addr} {oe : Obj} {cls : Value} {d : Option Addr} {pn : List (Addr × Obj)} {es : List Expr} {e : Expr} {ta : TA} {p pos : Pos} (C : ExcC X.K D) (hz : Zc cls d oe) (hf : ∃ vs, oe.data = .fields vs)
    (hg : Gl X "isinstance") (hm : X.mg "isinstance" = none) (ha : PA (X.suite a ((a, oe) :: pn)) (e :: es) ta)
    (hs : starEach (e :: es) X.env = (false, eval e X.env) :: starEach es X.env := by rfl) (hpl : (backTo pos (starEach es X.env)).any (·.1) = false := by rfl) :
    PE (X.suite a ((a, oe) :: pn)) (.Call (.Name "isinstance" p) (e :: es) [] pos) (fun σ H Q => cls = .ref D ∧ d = none ∧ ta σ H fun xs H1 => rIsE X.K D a xs H1 Q) := by
  refine ⟨fun pins st σ H Q I wish => ?_⟩
  obtain ⟨rfl, rfl, q⟩ := wish
  exact (pe_callB (X := X.suite a ((a, oe) :: pn)) (call_isE C hz hf) hg hm (by decide +kernel) ha (he := hs) (hpl := hpl)).run pins st σ H Q I q
end
end Kp
end
section
set_option Elab.async false
set_option linter.all false
set_option maxRecDepth 100000
set_option maxHeartbeats 4000000
namespace Kp
open PySem L2

open Ka
section
variable {P : Program} {w : World} {K : PySem.W.Frag} {mg : Str → Option Value} {base : Heap}
/-! a text that is too long -/
def spProgL (C CL : Addr) : Sp := fun vs H _ E => ∃ (x dx : Addr) (z : Str), vs = [.ref x, .str z] ∧ H x = some (.ins C dx []) ∧ 4000 < z.length ∧ z.length ≤ 5000 ∧ E (.ref CL) none H
theorem ok_progL (T : Tx K w mg) : FnOk P w K mg base (L2.CX P w) 4 T.f_Program_init T.d_Program_init ["self", "text"] (spProgL T.C_Program T.C_TooLong) := by
  refine T.Program_init.F.okX scN_prog (fun vs H Q E h => ?_) (fun cdv A outer s H vs Q E hr h => ?_)
  · obtain ⟨x, dx, z, rfl, _⟩ := h
    rfl
  · obtain ⟨x, dx, z, rfl, hx, z1, z2, q⟩ := h
    refine ⟨_, pss_cons (ps_if (pt_cmpR op_gt (pe_callB call_len_str (by rfl) T.B.len PySem.boot_len (pa_cons (pv 1) pa_nil)) (pe_glob (v := .int 4000) rfl T.k_MOST_CHARACTERS.choose_spec ⟨_, rfl⟩) (nomark _))
      (pss_one (ps_raise rfl (takes_of rfl rfl rfl rfl) (SkE.pmk_own1 PySem.F.excBase_ValueError T.x_TooLong T.g_TooLong T.kp_TooLong (raises_own T.b_TooLong T.t_TooLong) rfl (pe_joined (.cons pe_str (.cons (pe_fmt (pe_glob (v := .int 4000) rfl T.k_MOST_CHARACTERS.choose_spec ⟨_, rfl⟩)) (.cons pe_str .nil))))))) pss_nil) pss_never, ?_⟩
    refine ⟨_, rfl, _, rfl, by have : (5002 : Nat) ≤ sizeLine := by decide +kernel
                               omega, _, _, rfl, rfl, _, rfl, ?_⟩
    rw [decide_eq_true (by omega)]
    refine iteT (B := True) ?_
    exact ⟨_, rfl, by decide +kernel, .inr ⟨_, rfl, by decide +kernel, _, rfl, by decide +kernel, _, rfl, by decide +kernel, q⟩⟩
def spToldL : Sp := fun vs H Q _ => ∃ (z : Str), vs = [.str z] ∧ 4000 < z.length ∧ z.length ≤ 5000 ∧ ∀ (t : Addr) (H' : Hp), Same H H' → H' t = some (.tup [.str "long", .bl true]) → Q (.ref t) H'
theorem ok_toldL (T : Tx K w mg) (G_progL : FnOk P w K mg base (L2.CX P w) 4 T.f_Program_init T.d_Program_init ["self", "text"] (spProgL T.C_Program T.C_TooLong)) : FnOk P w K mg base CX0 6 T.f_L_told T.d_L_told ["text"] spToldL := by
  refine T.L_told.F.ok scN_told (fun vs H Q E h => ?_) (fun cdv A outer s H vs Q E hr h => ?_)
  · obtain ⟨z, rfl, _⟩ := h
    rfl
  · obtain ⟨z, rfl, z1, z2, q⟩ := h
    refine ⟨_, pss_cons (ps_try_manyAs (i := 1) rfl rfl scN_told.nd rfl rfl takes0
      (fun W pn xe tk _ => pss_one (ps_expr (pe_makeS T.Program_init.m G_progL hr (by rfl) T.g_Program T.Program_init.b (fun σ => passAt tk σ) (pa_cons (pv 0) pa_nil))))
      (.cons (c := .ref T.C_BadProgram) ⟨by rfl, by decide, .inl T.g_BadProgram⟩ (fun a oe cls d pn hz hf => pss_never)
      (.cons (c := .ref T.C_TooLong) ⟨by rfl, by decide, .inl T.g_TooLong⟩ (fun a oe cls d pn hz hf => pss_one (ps_ret (pe_tup (pa_cons pe_str (pa_cons (pe_isHeld T.ec_TooLong hz hf (by rfl) T.B.isinstance (pa_cons (pv 1) (pa_cons (pe_glob (v := .ref T.C_ScopeError) rfl T.g_ScopeError rfl) pa_nil))) pa_nil))))) .nil))) (pss_one (ps_ret pe_non)), ?_⟩
    refine ⟨_, rfl, fun x dx hx hdx ne => ?_⟩
    have sX : Same H (upd (upd H dx (.own x)) x (.ins T.C_Program dx [])) := (same_new hdx _).trans (same_new (by rw [upd_ne ne.symm]; exact hx) _)
    refine ⟨x, dx, z, rfl, upd_same, z1, z2, false, T.m_TooLong_BadProgram, (fun u => nomatch u), fun _ => ⟨true, T.m_TooLong_TooLong, fun _ a ha => ?_, (fun u => nomatch u)⟩⟩
    refine ⟨rfl, rfl, _, rfl, .ref T.C_ScopeError, .ref T.C_ScopeError, true, rfl, (fun u r => r), T.is_TooLong, by show 2 ≤ sizeLine; decide, fun t ht => ?_⟩
    exact q t _ (sX.trans (same_new ht _)) upd_same
end
end Kp
end
section
set_option Elab.async false
set_option linter.all false
set_option maxRecDepth 100000
set_option maxHeartbeats 4000000
namespace Kp
open PySem L2

open Ka Kd_ Kc
theorem says_tree {T : Ka.Tree} (h : ∀ s ∈ T.flat, Stm.okA s) : SaysA (T.flat.map Stm.txt) (T.flat.map some) := by
  refine ⟨by rw [List.length_map, List.length_map], fun i z _ hn => ?_, fun i z s hz hs => ?_⟩
  · rw [List.getElem?_map] at hn
    obtain ⟨_, _, e⟩ := Option.map_eq_some_iff.mp hn
    cases e
  · rw [List.getElem?_map] at hz hs
    obtain ⟨s1, e1, rfl⟩ := Option.map_eq_some_iff.mp hz
    obtain ⟨s2, e2, e3⟩ := Option.map_eq_some_iff.mp hs
    rw [e1] at e2
    cases e2; cases e3
    exact ⟨rfl, h _ (List.mem_of_getElem? e1)⟩
theorem says_all {ss : List Stm} (h : ∀ s ∈ ss, Stm.okA s) : SaysA (ss.map Stm.txt) (ss.map some) := by
  refine ⟨by rw [List.length_map, List.length_map], fun i z _ hn => ?_, fun i z s hz hs => ?_⟩
  · rw [List.getElem?_map] at hn
    obtain ⟨_, _, e⟩ := Option.map_eq_some_iff.mp hn
    cases e
  · rw [List.getElem?_map] at hz hs
    obtain ⟨s1, e1, rfl⟩ := Option.map_eq_some_iff.mp hz
    obtain ⟨s2, e2, e3⟩ := Option.map_eq_some_iff.mp hs
    rw [e1] at e2
    cases e2; cases e3
    exact ⟨rfl, h _ (List.mem_of_getElem? e1)⟩
end Kp
end
section
set_option Elab.async false
set_option linter.all false
set_option maxRecDepth 100000
set_option maxHeartbeats 4000000
namespace Kp
open PySem L2

open Ka
theorem rep_cps (c : Nat) : ∀ (n : Nat) (acc : Array Nat), ((List.replicate n #[c]).foldl (· ++ ·) acc).toList = acc.toList ++ List.replicate n c
  | 0, acc => by simp
  | n + 1, acc => by
    rw [List.replicate_succ, List.foldl_cons, rep_cps c n, List.replicate_succ, Array.toList_append]
    simp
theorem mul_sp (n : Nat) : (Txt.mul (" " : Str) (n : Int)).cps.toList = List.replicate n 32 := by
  have e : (" " : Str).cps = #[32] := by decide +kernel
  have l1 : ((" " : Str).length == 0) = false := by decide +kernel
  unfold Txt.mul
  match n with
  | 0 => rw [if_pos (by omega)]; rfl
  | 1 =>
    rw [if_neg (by omega), if_pos (by simp), e]; rfl
  | n + 2 =>
    rw [if_neg (by omega), if_neg (by rw [l1]; simp; omega), e]
    show ((List.replicate (((n + 2 : Nat) : Int)).toNat #[32]).foldl (· ++ ·) #[]).toList = _
    rw [rep_cps, Int.toNat_natCast]; rfl
theorem strip_sp {z : Str} {n : Nat} {w : List Nat} (h : z.cps.toList = List.replicate n 32 ++ w) (hw : ∀ c r, w = c :: r → c ≠ 32) : (Txt.lstripChars z (" " : Str)).cps.toList = w := by
  have e : (" " : Str).cps = #[32] := by decide +kernel
  have lo : stripLo (" " : Str).cps.contains true z = n := by
    unfold stripLo
    rw [if_pos rfl, h, e]
    have tw : ∀ (n : Nat), ((List.replicate n 32 ++ w).takeWhile (#[32] : Array Nat).contains).length = n := fun n => by
      induction n with
      | zero =>
        cases w with
        | nil => rfl
        | cons c r =>
          have : (#[32] : Array Nat).contains c = false := by simp; exact hw c r rfl
          show ((c :: r).takeWhile _).length = 0
          rw [List.takeWhile_cons, this]; rfl
      | succ n ih =>
        rw [List.replicate_succ, List.cons_append, List.takeWhile_cons, if_pos (by simp), List.length_cons, ih]
    exact tw n
  unfold Txt.lstripChars
  rw [PyProof.Rows.stripBy_eq, lo]
  have hi : stripHi (" " : Str).cps.contains false z n = z.length := by unfold stripHi; rfl
  rw [hi]
  have ll : z.length = n + w.length := by
    show z.cps.size = _
    rw [← Array.length_toList, h, List.length_append, List.length_replicate]
  rw [StrLaws.strSub_toList, h, ll, List.drop_left' (List.length_replicate ..), List.take_of_length_le (by omega)]
section
variable {X : Cx}
def rMulS : R2 := fun x y H Q => ∃ (z : Str) (k : Int), x = .str z ∧ y = .int k ∧ 0 ≤ k ∧ k ≤ 1000 ∧ z.length ≤ 1000 ∧ Q (.str (Txt.mul z k)) H
theorem op_mulS : OpR X (binaryOp .Mult) rMulS := by
  intro pins s σ H x y v u Q I rx ry h
  obtain ⟨z, k, rfl, rfl, k0, k1, z1, q⟩ := h
  obtain ⟨t, rfl⟩ := rx
  obtain ⟨t2, rfl⟩ := ry
  exact SB.mul (PyProof.Rows.mulOk_of 1000 1000 z1 k1 (by omega) (by decide) (by decide)) fun t' k' => ⟨.str (Txt.mul z k), H, I.tok _, ⟨_, rfl⟩, q⟩
end
end Kp
end
section
set_option Elab.async false
set_option linter.all false
set_option maxRecDepth 100000
set_option maxHeartbeats 4000000
namespace Kp
open PySem L2

open Ka
/-- spaces -/
abbrev spc (n : Nat) : Str := Txt.mul (" " : Str) (n : Int)
theorem spc_len (n : Nat) : (spc n).length = n := by
  show (spc n).cps.size = n
  rw [← Array.length_toList, mul_sp, List.length_replicate]
/-- the rows ws: the lines zs, some with spaces ahead, some blank ones between them; m: how many signs they have in all -/
inductive Spd : List Str → List Str → Nat → Prop
  | nil : Spd [] [] 0
  | blank {zs ws : List Str} {m n : Nat} : Spd zs ws m → n ≤ 4 → Spd zs (ws ++ [spc n]) (m + n)
  | line {zs ws : List Str} {z : Str} {m n : Nat} : Spd zs ws m → n ≤ 10 → Spd (zs ++ [z]) (ws ++ [spc n ++ z]) (m + n + z.length)
/-- a text that a space does not begin -/
def Solid (z : Str) : Prop := ∃ c r, z.cps.toList = c :: r ∧ c ≠ 32
theorem solid_ne {z : Str} (h : Solid z) : z ≠ ("" : Str) := fun e => by
  obtain ⟨c, r, h1, _⟩ := h
  rw [e] at h1
  cases (show ([] : List Nat) = c :: r from h1)
theorem str_x {a b : Str} (h : a.cps.toList = b.cps.toList) : a = b := Str.ext' (Array.toList_inj.mp h)
theorem strip_line {z : Str} (h : Solid z) (n : Nat) : Txt.lstripChars (spc n ++ z) (" " : Str) = z := by
  refine str_x (strip_sp (n := n) (w := z.cps.toList) ?_ fun c r e => ?_)
  · rw [cps_app, mul_sp]
  · obtain ⟨c', r', h1, h2⟩ := h
    rw [h1] at e
    cases e; exact h2
theorem strip_blank (n : Nat) : Txt.lstripChars (spc n) (" " : Str) = ("" : Str) := by
  refine str_x (strip_sp (n := n) (w := []) ?_ fun c r e => (by cases e))
  rw [mul_sp, List.append_nil]
theorem clean_snoc (ws : List Str) (z : Str) : cleanR (ws ++ [z]) = cleanR ws ++ (if Txt.lstripChars z (" " : Str) = ("" : Str) then [] else [Txt.lstripChars z (" " : Str)]) := by
  unfold cleanR
  rw [List.map_append, List.filter_append]
  congr 1
  by_cases h : Txt.lstripChars z (" " : Str) = ("" : Str)
  · rw [if_pos h]; simp [h]
  · rw [if_neg h]; simp [h]
theorem Spd.clean {zs ws : List Str} {m : Nat} (h : Spd zs ws m) : (∀ z ∈ zs, Solid z) → cleanR ws = zs := by
  induction h with
  | nil => intro _; rfl
  | blank h hn ih =>
    intro hz
    rw [clean_snoc, if_pos (strip_blank _), List.append_nil]; exact ih hz
  | line h hn ih =>
    intro hz
    have hl := hz _ (List.mem_append_right _ (List.mem_singleton.mpr rfl))
    rw [clean_snoc, strip_line hl, if_neg (solid_ne hl), ih fun z hm => hz z (List.mem_append_left _ hm)]
theorem Spd.sum {zs ws : List Str} {m : Nat} (h : Spd zs ws m) : (ws.map (·.length)).sum = m := by
  induction h with
  | nil => rfl
  | blank h hn ih => rw [List.map_append, List.sum_append, ih]; simp [spc_len]
  | line h hn ih => rw [List.map_append, List.sum_append, ih]; simp [Str.length_append, spc_len]; omega
theorem Spd.rows {zs ws : List Str} {m : Nat} (h : Spd zs ws m) : (∀ z ∈ zs, 10 ∉ z.cps.toList ∧ z.length ≤ 800) → ∀ y ∈ ws, 10 ∉ y.cps.toList ∧ y.length ≤ 900 := by
  have sp10 : ∀ n, 10 ∉ (spc n).cps.toList := fun n z => by
    rw [mul_sp] at z
    have := (List.mem_replicate.mp z).2
    omega
  induction h with
  | nil => intro _ y hy; cases hy
  | @blank zs ws m n h hn ih =>
    intro hz y hy
    rcases List.mem_append.mp hy with hy | hy
    · exact ih hz y hy
    · rw [List.mem_singleton.mp hy]; exact ⟨sp10 n, by rw [spc_len]; omega⟩
  | @line zs ws z m n h hn ih =>
    intro hz y hy
    rcases List.mem_append.mp hy with hy | hy
    · exact ih (fun z hm => hz z (List.mem_append_left _ hm)) y hy
    · obtain ⟨h1, h2⟩ := hz z (List.mem_append_right _ (List.mem_singleton.mpr rfl))
      rw [List.mem_singleton.mp hy]
      refine ⟨?_, by rw [Str.length_append, spc_len]; omega⟩
      rw [cps_app]
      intro e
      rcases List.mem_append.mp e with e | e
      · exact sp10 n e
      · exact h1 e
end Kp
end
section
set_option Elab.async false
set_option linter.all false
set_option maxRecDepth 100000
set_option maxHeartbeats 4000000
namespace Kp
open PySem L2

open Ka Kc
def depL (T : Ka.Tree) : List V := (List.range (T.len + 1)).map fun p => V.int (pdep T p : Nat)
def folL (T : Ka.Tree) (p : Nat) : List V := (fol T p).map fun q => V.int (q : Nat)
theorem folL_eq (T : Ka.Tree) (p : Nat) : stopsOf (T.pE 0 1) p = folL T p := by
  unfold stopsOf folL fol; rw [List.map_map]; rfl
theorem depL_eq (T : Ka.Tree) : ((fin_ T).pts.map fun s => V.int (((fin_ T).depths.getD s 0 : Nat))) = depL T := by
  unfold depL
  apply List.ext_getElem?
  intro i
  rw [List.getElem?_map, List.getElem?_map]
  have hl := fin_pts T
  by_cases h : i < T.len + 1
  · rw [List.getElem?_eq_getElem (by rw [hl]; exact h), List.getElem?_range h]
    show some _ = some _
    have e : (fin_ T).pts[i]'(by rw [hl]; exact h) = scOf T i := by
      unfold scOf
      rw [List.getD_eq_getElem?_getD, List.getElem?_eq_getElem (by rw [hl]; exact h)]; rfl
    rw [e]; rfl
  · rw [List.getElem?_eq_none (by omega), List.getElem?_eq_none (by simp; omega)]; rfl
theorem depL_get {T : Ka.Tree} {p : Nat} (h : p < T.len + 1) : (depL T)[p]? = some (.int (pdep T p : Nat)) := by
  unfold depL; rw [List.getElem?_map, List.getElem?_range h]; rfl
theorem depL_len (T : Ka.Tree) : (depL T).length = T.len + 1 := by simp [depL]
/-- what of H stands: tuples, instances -/
structure Kt (K : PySem.W.Frag) (H H' : Hp) : Prop where
  q : KeepT K H H'
  t : ∀ a vs, H a = some (.tup vs) → H' a = some (.tup vs)
  i : ∀ a C dx fs, H a = some (.ins C dx fs) → H' a = some (.ins C dx fs)
theorem Kt.of {K : PySem.W.Frag} {H H' : Hp} (e : Same H H') : Kt K H H' := ⟨Same.keepT e, fun a vs h => e _ _ h, fun a C dx fs h => e _ _ h⟩
theorem Kt.trans {K : PySem.W.Frag} {H H1 H2 : Hp} (a : Kt K H H1) (b : Kt K H1 H2) : Kt K H H2 := ⟨a.q.trans b.q, fun c vs h => b.t _ _ (a.t _ _ h), fun c C dx fs h => b.i _ _ _ _ (a.i _ _ _ _ h)⟩
def NotTI : Option HO → Prop
  | some (.tup _) => False
  | some (.frz _ _) => False
  | some (.ins _ _ _) => False
  | _ => True
theorem NotTI.t {o : Option HO} (h : NotTI o) : NotT o := by
  cases o with
  | none => trivial
  | some o => cases o <;> first | exact h.elim | trivial
theorem But.kt {K : PySem.W.Frag} {ms : List Addr} {H H' : Hp} (e : But ms H H') (h : ∀ m, m ∈ ms → NotTI (H m)) : Kt K H H' :=
  ⟨e.keepT fun m hm => (h m hm).t, fun a vs q => e _ _ q fun m => by have := h a m; rw [q] at this; exact this, fun a C dx fs q => e _ _ q fun m => by have := h a m; rw [q] at this; exact this⟩
/-- the program at x, made of T -/
structure PF (K : PySem.W.Frag) (C : Addr) (H : Hp) (x : Addr) (T : Ka.Tree) where
  dx : Addr
  fs : List (Str × V)
  o : H x = some (.ins C dx fs)
  nosa : fs.lookup ("scopes_around" : Str) = none
  notx : fs.lookup ("text" : Str) = none
  aD : Addr
  lD : fs.lookup ("depths" : Str) = some (.ref aD)
  D : SqT K H aD (depL T)
  aF : Addr
  lF : fs.lookup ("followers" : Str) = some (.ref aF)
  yF : List V
  F : SqT K H aF yF
  tF : TupsAt H yF ((List.range (T.len + 1)).map (folL T))
  aE : Addr
  lE : fs.lookup ("edges" : Str) = some (.ref aE)
  xE : List V
  E : SqT K H aE xE
  tE : TupsAt H xE ((T.pE 0 1).map Edge.vals)
  aL : Addr
  lL : fs.lookup ("lines" : Str) = some (.ref aL)
  L : SqT K H aL ((T.flat.map Stm.txt).map V.str)
  aR : Addr
  lR : fs.lookup ("parents" : Str) = some (.ref aR)
  R : SqT K H aR ((fin_ T).parents.map opV)
  aS : Addr
  lS : fs.lookup ("scope_depths" : Str) = some (.ref aS)
  S : SqT K H aS ((fin_ T).depths.map fun n => V.int (n : Nat))
  aO : Addr
  lO : fs.lookup ("loops" : Str) = some (.ref aO)
  O : SqT K H aO (((List.range (fin_ T).kinds.length).filter fun k => decide ((fin_ T).kinds[k]? = some .whl)).map fun n => V.int (n : Nat))
  aP : Addr
  lP : fs.lookup ("point_scopes" : Str) = some (.ref aP)
  P : SqT K H aP ((fin_ T).pts.map fun n => V.int (n : Nat))
  aI : Addr
  lI : fs.lookup ("sites" : Str) = some (.ref aI)
  I : SqT K H aI ((sitesOf T).map fun n => V.int (n : Nat))
  aJ : Addr
  lJ : fs.lookup ("site_scopes" : Str) = some (.ref aJ)
  zJ : List V
  J : SqT K H aJ zJ
  tJ : TupsAt H zJ ((sitesOf T).map (arL T))
  aT : Addr
  lT : fs.lookup ("statements" : Str) = some (.ref aT)
  yT : List V
  qT : SqT K H aT yT
  tT : ToldsAt K H yT T.flat
  aG : Addr
  lG : fs.lookup ("line_depths" : Str) = some (.ref aG)
  G : SqT K H aG ((T.ldeps 0).map fun n => V.int (n : Nat))
  vz : Str
  lV : fs.lookup ("variables" : Str) = some (.str vz)
  hV : VarZ T.flat vz
def PF.kt {K : PySem.W.Frag} {C x : Addr} {H H' : Hp} {T : Ka.Tree} (h : PF K C H x T) (k : Kt K H H') : PF K C H' x T :=
  { h with o := k.i _ _ _ _ h.o, D := k.q _ _ h.D, F := k.q _ _ h.F, tF := h.tF.mono fun a vs e => k.t _ _ e, E := k.q _ _ h.E, tE := h.tE.mono fun a vs e => k.t _ _ e, L := k.q _ _ h.L, R := k.q _ _ h.R, S := k.q _ _ h.S, O := k.q _ _ h.O, P := k.q _ _ h.P, I := k.q _ _ h.I, J := k.q _ _ h.J, tJ := h.tJ.mono fun a vs e => k.t _ _ e, qT := k.q _ _ h.qT, tT := h.tT.keep k.q, G := k.q _ _ h.G }
theorem ProgAt.view {K : PySem.W.Frag} {C x : Addr} {H : Hp} {T : Ka.Tree} (h : ProgAt K C H x T) : Nonempty (PF K C H x T) := by
  obtain ⟨dx, a1, a2, a4, a5, a6, a7, a8, a9, a10, a11, a12, a13, z, ho, h5, h6, ⟨ls, h7, e7⟩, h8, h9, ⟨xs, h10, t10⟩, ⟨ys, h11, t11⟩, h12, h13, ⟨zs, h14, t14⟩, ⟨us, h15, t15⟩, h16, h17⟩ := h
  have at_ : ∀ (i : Nat) {k : Str} {v : V}, ns13[i]? = some k → ([.ref a1, .ref a2, .str z, .ref a4, .ref a5, .ref a6, .ref a7, .ref a8, .ref a9, .ref a10, .ref a11, .ref a12, .ref a13] : List V)[i]? = some v → (ns13.zip ([.ref a1, .ref a2, .str z, .ref a4, .ref a5, .ref a6, .ref a7, .ref a8, .ref a9, .ref a10, .ref a11, .ref a12, .ref a13] : List V)).lookup k = some v := fun i k v hk hv => lookup_zip ns13_nd hk hv
  have ef : stopsOf (T.pE 0 1) = folL T := funext (folL_eq T)
  subst e7
  exact ⟨{ dx := dx, fs := _, o := ho, nosa := lookup_zip_none (by decide +kernel), notx := lookup_zip_none (by decide +kernel), aD := a9, lD := at_ 8 rfl rfl, D := (by rw [← depL_eq]; exact h9), aF := a11, lF := at_ 10 rfl rfl, yF := ys, F := h11, tF := (by rw [← ef]; exact t11), aE := a10, lE := at_ 9 rfl rfl, xE := xs, E := h10, tE := t10, aL := a1, lL := at_ 0 rfl rfl, L := h12, aR := a5, lR := at_ 4 rfl rfl, R := h5, aS := a6, lS := at_ 5 rfl rfl, S := h6, aO := a7, lO := at_ 6 rfl rfl, O := h7, aP := a8, lP := at_ 7 rfl rfl, P := h8, aI := a12, lI := at_ 11 rfl rfl, I := h13, aJ := a13, lJ := at_ 12 rfl rfl, zJ := zs, J := h14, tJ := t14, aT := a2, lT := at_ 1 rfl rfl, yT := us, qT := h15, tT := t15, aG := a4, lG := at_ 3 rfl rfl, G := h16, vz := z, lV := at_ 2 rfl rfl, hV := h17 }⟩
/-- the tuple of the followers of a point -/
theorem PF.fol {K : PySem.W.Frag} {C x : Addr} {H : Hp} {T : Ka.Tree} (h : PF K C H x T) {p : Nat} (hp : p < T.len + 1) : ∃ b, h.yF[p]? = some (.ref b) ∧ H b = some (.tup (folL T p)) := by
  have hl := h.tF.length
  rw [List.length_map, List.length_range] at hl
  have hi : p < h.yF.length := by omega
  have e : h.yF[p]? = some h.yF[p] := List.getElem?_eq_getElem hi
  obtain ⟨c, vs, hx, hv, hc⟩ := h.tF.get e
  rw [List.getElem?_map, List.getElem?_range hp] at hv
  have := Option.some.inj hv
  subst this
  exact ⟨c, by rw [e, hx], hc⟩
theorem folL_get {T : Ka.Tree} {p i q : Nat} (h : (Kc.fol T p)[i]? = some q) : (folL T p)[i]? = some (.int (q : Nat)) := by
  unfold folL; rw [List.getElem?_map, h]; rfl
theorem folL_len (T : Ka.Tree) (p : Nat) : (folL T p).length = (Kc.fol T p).length := by unfold folL; rw [List.length_map]
/-! ### dicts with points for keys -/
theorem putK_new {kvs : List (Key × V)} {k : Key} {v : V} (h : k ∉ kvs.map (·.1)) : putK kvs k v = kvs ++ [(k, v)] := by
  unfold putK
  rw [if_neg]
  intro z
  obtain ⟨p, hp, e⟩ := List.any_eq_true.mp z
  exact h (List.mem_map.mpr ⟨p, hp, of_decide_eq_true e⟩)
theorem valV_isSome {kvs : List (Key × V)} {k : Key} : (valV kvs k).isSome = true ↔ k ∈ kvs.map (·.1) := by
  induction kvs with
  | nil => exact ⟨fun z => (nomatch z), fun z => (nomatch z)⟩
  | cons p r ih =>
    rw [List.map_cons, List.mem_cons]
    by_cases e : p.1 = k
    · rw [valV_pos e]; exact ⟨fun _ => .inl e.symm, fun _ => rfl⟩
    · rw [valV_neg e, ih]
      exact ⟨.inr, fun z => z.elim (fun y => absurd y.symm e) id⟩
/-- the dict's entries: points with their answers -/
inductive SeenR (K : PySem.W.Frag) (H : Hp) : Seen → List (Key × V) → Prop
  | nil : SeenR K H [] []
  | cons {p : Nat} {a : Ans} {b : Addr} {S : Seen} {kvs : List (Key × V)} : SqT K H b (a.map V.bl) → SeenR K H S kvs → SeenR K H ((p, a) :: S) ((.inl (p : Nat), .ref b) :: kvs)
theorem SeenR.kt {K : PySem.W.Frag} {H H' : Hp} {S : Seen} {kvs : List (Key × V)} (h : SeenR K H S kvs) (k : KeepT K H H') : SeenR K H' S kvs := by
  induction h with
  | nil => exact .nil
  | cons h _ ih => exact .cons (k _ _ h) ih
theorem SeenR.snoc {K : PySem.W.Frag} {H : Hp} {S : Seen} {kvs : List (Key × V)} (h : SeenR K H S kvs) {p : Nat} {a : Ans} {b : Addr} (hb : SqT K H b (a.map V.bl)) : SeenR K H (S ++ [(p, a)]) (kvs ++ [(.inl (p : Nat), .ref b)]) := by
  induction h with
  | nil => exact .cons hb .nil
  | cons h _ ih => exact .cons h ih
theorem SeenR.len {K : PySem.W.Frag} {H : Hp} {S : Seen} {kvs : List (Key × V)} (h : SeenR K H S kvs) : kvs.length = S.length := by
  induction h with
  | nil => rfl
  | cons h _ ih => simp [ih]
theorem SeenR.keys {K : PySem.W.Frag} {H : Hp} {S : Seen} {kvs : List (Key × V)} (h : SeenR K H S kvs) {p : Nat} : (.inl (p : Nat) : Key) ∈ kvs.map (·.1) ↔ Has S p := by
  induction h with
  | nil => simp [Has]
  | @cons q a b S kvs h _ ih =>
    unfold Has at ih ⊢
    rw [List.map_cons, List.map_cons, List.mem_cons, List.mem_cons, ih]
    constructor
    · rintro (z | z)
      · left; have z := Sum.inl.inj z; exact Int.ofNat.inj z
      · exact .inr z
    · rintro (z | z)
      · left; simp only at z; rw [z]
      · exact .inr z
theorem SeenR.get {K : PySem.W.Frag} {H : Hp} {S : Seen} {kvs : List (Key × V)} (h : SeenR K H S kvs) {p : Nat} {a : Ans} (e : S.lookup p = some a) : ∃ b, valV kvs (.inl (p : Nat)) = some (.ref b) ∧ SqT K H b (a.map V.bl) := by
  induction h with
  | nil => cases e
  | @cons q a' b S kvs h _ ih =>
    rw [List.lookup_cons] at e
    by_cases z : p = q
    · subst z
      have : a' = a := by simpa using e
      subst this
      exact ⟨b, valV_pos rfl, h⟩
    · have z2 : (p == q) = false := by simpa using z
      rw [z2] at e
      rw [valV_neg (fun y => z (by have y := Sum.inl.inj y; exact (Int.ofNat.inj y).symm))]
      exact ih e
def FndAt (K : PySem.W.Frag) (H : Hp) (d : Addr) (S : Seen) : Prop := ∃ kvs, H d = some (.dK kvs) ∧ SeenR K H S kvs
theorem FndAt.kt {K : PySem.W.Frag} {H H' : Hp} {d : Addr} {S : Seen} (h : FndAt K H d S) (e : H' d = H d) (k : KeepT K H H') : FndAt K H' d S := by
  obtain ⟨kvs, h1, h2⟩ := h
  exact ⟨kvs, by rw [e]; exact h1, h2.kt k⟩
theorem FndAt.same {K : PySem.W.Frag} {H H' : Hp} {d : Addr} {S : Seen} (h : FndAt K H d S) (e : Same H H') : FndAt K H' d S := by
  obtain ⟨kvs, h1, h2⟩ := h
  exact ⟨kvs, e _ _ h1, h2.kt (Same.keepT e)⟩
theorem FndAt.not {K : PySem.W.Frag} {H : Hp} {d : Addr} {S : Seen} (h : FndAt K H d S) : NotTI (H d) := by
  obtain ⟨kvs, h1, _⟩ := h
  rw [h1]; trivial
theorem FndAt.has {K : PySem.W.Frag} {H : Hp} {d : Addr} {S : Seen} (h : FndAt K H d S) (p : Nat) : ∃ o, DGet H d (.int (p : Nat)) o ∧ o.isSome = decide (Has S p) := by
  obtain ⟨kvs, h1, h2⟩ := h
  refine ⟨_, DGet.k (k := (.inl (p : Nat) : Key)) h1, ?_⟩
  by_cases z : Has S p
  · rw [decide_eq_true z]; exact valV_isSome.mpr (h2.keys.mpr z)
  · rw [decide_eq_false z]
    cases q : (valV kvs (.inl (p : Nat) : Key)).isSome with
    | false => rfl
    | true => exact absurd (h2.keys.mp (valV_isSome.mp q)) z
theorem FndAt.get {K : PySem.W.Frag} {H : Hp} {d : Addr} {S : Seen} (h : FndAt K H d S) {p : Nat} {a : Ans} (e : S.lookup p = some a) : ∃ b, DGet H d (.int (p : Nat)) (some (.ref b)) ∧ SqT K H b (a.map V.bl) := by
  obtain ⟨kvs, h1, h2⟩ := h
  obtain ⟨b, g1, g2⟩ := h2.get e
  refine ⟨b, ?_, g2⟩
  rw [← g1]; exact DGet.k (k := (.inl (p : Nat) : Key)) h1
/-- a point is put into it -/
theorem FndAt.put {K : PySem.W.Frag} {H : Hp} {d : Addr} {S : Seen} (h : FndAt K H d S) {p : Nat} {a : Ans} {b : Addr} (hb : SqT K H b (a.map V.bl)) (hn : ¬ Has S p) (hl : S.length ≤ 900) :
    ∃ H', DPut H d (.int (p : Nat)) (.ref b) H' ∧ But [d] H H' ∧ FndAt K H' d (S ++ [(p, a)]) := by
  obtain ⟨kvs, h1, h2⟩ := h
  have e := h2.len
  refine ⟨_, DPut.k (k := (.inl (p : Nat) : Key)) h1 (small1000 (by omega)), But.upd (by simp) _, ?_⟩
  rw [putK_new fun z => hn (h2.keys.mp z)]
  have k : KeepT K H (upd H d (.dK (kvs ++ [(.inl (p : Nat), .ref b)]))) := (But.upd (ms := [d]) (by simp) _).keepT fun m hm => by rw [List.mem_singleton.mp hm, h1]; trivial
  exact ⟨_, upd_same, (h2.kt k).snoc (k _ _ hb)⟩
theorem walk_zipTm {K : PySem.W.Frag} {a b : Addr} {xs ys : List V} {n : Nat} (hn : n = min xs.length ys.length) : Walk (RZ.ItzT K a b) n (fun H => SqT K H a xs ∧ SqT K H b ys) (YPair (fun i => xs[i]?) (fun i => ys[i]?)) := by
  refine ⟨fun i H hi q => ⟨xs, ys, _, _, q.1, q.2, List.getElem?_eq_getElem (by omega), List.getElem?_eq_getElem (by omega)⟩, fun H q => ⟨xs, ys, q.1, q.2, by omega⟩, fun i H v H' hi q y => ?_⟩
  obtain ⟨T, x, y, ev, hT, eH, f1, f2⟩ := y
  exact ⟨T, x, y, ev, hT, eH, f1 xs q.1, f2 ys q.2⟩
end Kp
end
section
set_option Elab.async false
set_option linter.all false
set_option maxRecDepth 100000
set_option maxHeartbeats 4000000
namespace Kp
open PySem L2

open Ka Kc
theorem pC_ne {H : Hp} {p C R : Addr} {xs : List Str} (h : Pool H p C) (g : H R = some (.lst (xs.map V.str))) (n : R ≠ p) (hC : ∀ ns : List Int, H C = some (.lst (ns.map V.int)) → C ≠ R) : C ≠ R := by
  obtain ⟨ns, i, c, z, _, h2, _⟩ := h
  exact hC ns h2
section
variable {P : Program} {w : World} {K : PySem.W.Frag} {mg : Str → Option Value} {base : Heap}
def spSpaced (K : PySem.W.Frag) : Sp := fun vs H Q _ => ∃ (p C l : Addr) (zs : List Str), vs = [.ref p, .ref l] ∧ Pool H p C ∧ H l = some (.lst (zs.map V.str)) ∧ l ≠ p ∧ zs.length ≤ 100 ∧ (∀ z ∈ zs, z.length ≤ 30) ∧
  ∀ (ws : List Str) (m : Nat) (H' : Hp), But [p] H H' → Pool H' p C → Spd zs ws m → ws.length ≤ 2 * zs.length + 1 → m ≤ 40 * zs.length + 10 → Q (.str (Txt.join ("\n" : Str) ws)) H'
theorem scN_spaced : FnScope ["pool", "lines", "rows", "line", "turn"] ["pool", "lines"] (defScope s_L_spaced) := ⟨rfl, rfl, rfl, by decide +kernel, rfl, by decide +kernel, by decide +kernel⟩
theorem ok_spaced (T : Tx K w mg) : FnOk P w K mg base CX0 3 T.f_L_spaced T.d_L_spaced ["pool", "lines"] (spSpaced K) := by
  have G_L_take := ok_take (P := P) (base := base) T
  refine T.L_spaced.F.ok scN_spaced (fun vs H Q E h => ?_) (fun cdv A outer s H vs Q E hr h => ?_)
  · obtain ⟨p, C, l, zs, rfl, _⟩ := h
    rfl
  · obtain ⟨p, C, l, zs, rfl, pool, hl, nlp, zl, z20, q⟩ := h
    have hu := hu_of hr
    refine ⟨_, (pss_cons (ps_set (i := 2) scN_spaced.nd rfl (.inl rfl) (pe_lst pa_nil))
        (Evl.pss_cut (ps_for PassesOwn.never rfl (pi_list (pv 1)) (pg_name (i := 3) scN_spaced.nd rfl (.inl rfl)) (Evl.pss_cut (ps_for PassesOwn.never rfl (pi_range1 rfl T.B.range (pa_cons (pe_op op_fdiv (pe_call G_L_take hr (by rfl) T.L_take.g T.L_take.F.kp T.L_take.b .nil pass0 (pa_cons (pv 0) (pa_cons pe_int pa_nil))) pe_int) pa_nil)) (pg_name (i := 4) scN_spaced.nd rfl (.inl rfl)) (pss_one (ps_expr (pe_bm PySem.F.plainAttrs_list PySem.F.slot_list_append PySem.F.type_list_append mt_append (pv 2) (pa_cons (pe_op op_mulS pe_str (pe_call G_L_take hr (by rfl) T.L_take.g T.L_take.F.kp T.L_take.b .nil pass0 (pa_cons (pv 0) (pa_cons pe_int pa_nil)))) pa_nil)))))
        (pss_one (ps_expr (pe_bm PySem.F.plainAttrs_list PySem.F.slot_list_append PySem.F.type_list_append mt_append (pv 2) (pa_cons (pe_op op_add_str (pe_op op_mulS pe_str (pe_op op_mul (pe_call G_L_take hr (by rfl) T.L_take.g T.L_take.F.kp T.L_take.b .nil pass0 (pa_cons (pv 0) (pa_cons pe_int pa_nil))) (pe_call G_L_take hr (by rfl) T.L_take.g T.L_take.F.kp T.L_take.b .nil pass0 (pa_cons (pv 0) (pa_cons pe_int pa_nil))))) (pv 3)) pa_nil))))))
        (Evl.pss_cut (ps_for PassesOwn.never rfl (pi_range1 rfl T.B.range (pa_cons (pe_op op_fdiv (pe_call G_L_take hr (by rfl) T.L_take.g T.L_take.F.kp T.L_take.b .nil pass0 (pa_cons (pv 0) (pa_cons pe_int pa_nil))) pe_int) pa_nil)) (pg_name (i := 4) scN_spaced.nd rfl (.inl rfl)) (pss_one (ps_expr (pe_bm PySem.F.plainAttrs_list PySem.F.slot_list_append PySem.F.type_list_append mt_append (pv 2) (pa_cons (pe_op op_mulS pe_str (pe_call G_L_take hr (by rfl) T.L_take.g T.L_take.F.kp T.L_take.b .nil pass0 (pa_cons (pv 0) (pa_cons pe_int pa_nil)))) pa_nil)))))
        (pss_one (ps_ret (pe_join pe_str (pv 2))))))), ?_⟩
    refine ⟨Nat.zero_le _, fun R hR => ?_⟩
    have s1 := same_new hR (.lst [])
    have e1 : (upd H R (.lst [])) R = some (.lst (([] : List Str).map V.str)) := upd_same
    have pool1 : Pool (upd H R (.lst [])) p C := pool.but (But.same s1 []) (by simp) (by simp)
    generalize upd H R (.lst []) = H1 at s1 e1 pool1 ⊢
    have nRp : R ≠ p := by obtain ⟨ns, i, c, z, h1, _⟩ := pool; exact new_ne_of hR h1
    have nRC : C ≠ R := by obtain ⟨ns, i, c, z, _, h1, _⟩ := pool; exact (new_ne_of hR h1).symm
    refine ⟨fun σ' H' => ∃ (v3 v4 : Option V) (ws : List Str) (m : Nat), σ' = [some (.ref p), some (.ref l), some (.ref R), v3, v4] ∧ But [p] H H' ∧ Pool H' p C ∧ H' R = some (.lst (ws.map V.str)) ∧ Spd zs ws m ∧ ws.length ≤ 2 * zs.length ∧ m ≤ 40 * zs.length, ?_, ?_⟩
    · refine ⟨_, rfl, l, rfl, ⟨_, SqL.of (s1 _ _ hl)⟩, for_it (walk_list (xs := zs.map V.str)) (fun i σ' H' => ∃ (v3 v4 : Option V) (ws : List Str) (m : Nat), σ' = [some (.ref p), some (.ref l), some (.ref R), v3, v4] ∧ But [p] H H' ∧ Pool H' p C ∧ H' R = some (.lst (ws.map V.str)) ∧ Spd (zs.take i) ws m ∧ ws.length ≤ 2 * i ∧ m ≤ 40 * i) ⟨none, none, [], 0, rfl, But.same s1 _, pool1, e1, by rw [List.take_zero]; exact .nil, by simp, by simp⟩ ?_ ?_ ?_⟩
      · rintro i σ' H' _ ⟨_, _, _, _, _, b, _⟩
        exact SqL.of (b _ _ hl (by simpa using nlp))
      · rintro i y σ' H9 H2 hi ⟨v3, v4, ws, m, rfl, b2, pool2, hR2, spd, wl, ml⟩ ⟨rfl, hx⟩
        rw [List.getElem?_map] at hx
        obtain ⟨z, hz, rfl⟩ := Option.map_eq_some_iff.mp hx
        have z30 := z20 z (List.mem_of_getElem? hz)
        have hiz : i < zs.length := (List.getElem?_eq_some_iff.mp hz).1
        refine ⟨fun σ' H' => ∃ (v4 : Option V) (ws2 : List Str) (m2 : Nat), σ' = [some (.ref p), some (.ref l), some (.ref R), some (.str z), v4] ∧ But [p] H H' ∧ Pool H' p C ∧ H' R = some (.lst (ws2.map V.str)) ∧ Spd (zs.take i) ws2 m2 ∧ ws2.length ≤ ws.length + 1 ∧ m2 ≤ m + 2, ?_, ?_⟩
        · refine ⟨_, rfl, p, C, 6, rfl, pool2, by decide, by decide, (fun z => nomatch z), fun d H3 b3 pool3 d0 d6 => ?_⟩
          have hR3 := b3 _ _ hR2 (by simpa using nRp)
          refine ⟨_, _, rfl, rfl, ⟨by decide, by decide⟩, _, rfl, by omega, by omega, ?_⟩
          obtain ⟨k, hk⟩ : ∃ k : Nat, k = (d / 4).toNat := ⟨_, rfl⟩
          have hk1 : k ≤ 1 := by omega
          rw [← hk]
          refine for_range (lo := 0) (n := k) (fun j σ' H' => ∃ (v4 : Option V) (ws2 : List Str) (m2 : Nat), σ' = [some (.ref p), some (.ref l), some (.ref R), some (.str z), v4] ∧ But [p] H H' ∧ Pool H' p C ∧ H' R = some (.lst (ws2.map V.str)) ∧ Spd (zs.take i) ws2 m2 ∧ ws2.length ≤ ws.length + j ∧ m2 ≤ m + 2 * j) ⟨v4, ws, m, rfl, b2.trans b3, pool3, hR3, spd, by omega, by omega⟩ ?_ ?_
          · rintro j σ' H4 hj ⟨v4, ws2, m2, rfl, b4, pool4, hR4, spd4, wl4, ml4⟩
            refine ⟨_, rfl, .inl ⟨rfl, _, SqL.of hR4⟩, _, rfl, p, C, 3, rfl, pool4, by decide, by decide, (fun z => nomatch z), fun e H5 b5 pool5 e0 e3 => ?_⟩
            have hR5 := b5 _ _ hR4 (by simpa using nRp)
            obtain ⟨e, rfl⟩ : ∃ n : Nat, e = n := ⟨e.toNat, by omega⟩
            refine ⟨(" " : Str), (e : Int), rfl, rfl, by omega, by omega, by decide +kernel, R, _, _, rfl, rfl, hR5, by rw [List.length_map]; exact small1000 (by omega), ?_⟩
            have b6 : But [R] H5 (upd H5 R (.lst (ws2.map V.str ++ [.str (spc e)]))) := But.upd (by simp) _
            exact ⟨_, ws2 ++ [spc e], m2 + e, rfl, fun c o hc hn => b6 _ _ ((b4.trans b5) c o hc hn) (by simpa using ne_of_none hc hR), pool5.but b6 (by simpa using nRC) (by simpa using nRp.symm), by rw [upd_same, List.map_append]; rfl, spd4.blank (by omega), by simp only [List.length_append, List.length_singleton]; omega, by omega⟩
          · rintro σ' H4 ⟨v4, ws2, m2, rfl, b4, pool4, hR4, spd4, wl4, ml4⟩
            exact ⟨v4, ws2, m2, rfl, b4, pool4, hR4, spd4, by omega, by omega⟩
        rintro σ' H4 ⟨v4, ws2, m2, rfl, b4, pool4, hR4, spd4, wl4, ml4⟩
        refine ⟨_, rfl, .inl ⟨rfl, _, SqL.of hR4⟩, _, rfl, p, C, 5, rfl, pool4, by decide, by decide, (fun z => nomatch z), fun e H5 b5 pool5 e0 e5 => ⟨_, rfl, p, C, 2, rfl, pool5, by decide, by decide, (fun z => nomatch z), fun g H6 b6 pool6 g0 g2 => ?_⟩⟩
        have hR6 := b6 _ _ (b5 _ _ hR4 (by simpa using nRp)) (by simpa using nRp)
        obtain ⟨e, rfl⟩ : ∃ n : Nat, e = n := ⟨e.toNat, by omega⟩
        obtain ⟨g, rfl⟩ : ∃ n : Nat, g = n := ⟨g.toNat, by omega⟩
        have eg : e * g ≤ 4 := Nat.mul_le_mul (show e ≤ 4 by omega) (show g ≤ 1 by omega)
        have ec : ((e : Nat) : Int) * ((g : Nat) : Int) = ((e * g : Nat) : Int) := (Int.natCast_mul e g).symm
        refine ⟨_, _, rfl, rfl, .inl ⟨by omega, by omega⟩, (" " : Str), ((e * g : Nat) : Int), rfl, congrArg V.int ec, (show (0 : Int) ≤ ((e * g : Nat) : Int) by omega), (show ((e * g : Nat) : Int) ≤ 1000 by omega), by decide +kernel, _, rfl, spc (e * g), z, rfl, rfl, ?_, R, _, _, rfl, rfl, hR6, by rw [List.length_map]; exact small1000 (by omega), ?_⟩
        · rw [spc_len]
          have : (4002 : Nat) ≤ sizeLine := by decide
          omega
        have b7 : But [R] H6 (upd H6 R (.lst (ws2.map V.str ++ [.str (spc (e * g) ++ z)]))) := But.upd (by simp) _
        exact ⟨_, _, ws2 ++ [spc (e * g) ++ z], m2 + e * g + z.length, rfl, fun c o hc hn => b7 _ _ (((b4.trans b5).trans b6) c o hc hn) (by simpa using ne_of_none hc hR), pool6.but b7 (by simpa using nRC) (by simpa using nRp.symm), by rw [upd_same, List.map_append]; rfl, by rw [take_snoc hz]; exact spd4.line (by omega), by simp only [List.length_append, List.length_singleton]; omega, by omega⟩
      · rintro σ' H' ⟨v3, v4, ws, m, rfl, b, pl, hR', spd, wl, ml⟩
        rw [List.length_map] at wl ml
        rw [List.length_map, List.take_length] at spd
        exact ⟨v3, v4, ws, m, rfl, b, pl, hR', spd, wl, ml⟩
    rintro σ' H2 ⟨v3, v4, ws, m, rfl, b2, pool2, hR2, spd, wl, ml⟩
    refine ⟨fun σ' H' => ∃ (v4 : Option V) (ws2 : List Str) (m2 : Nat), σ' = [some (.ref p), some (.ref l), some (.ref R), v3, v4] ∧ But [p] H H' ∧ Pool H' p C ∧ H' R = some (.lst (ws2.map V.str)) ∧ Spd zs ws2 m2 ∧ ws2.length ≤ ws.length + 1 ∧ m2 ≤ m + 2, ?_, ?_⟩
    · refine ⟨_, rfl, p, C, 6, rfl, pool2, by decide, by decide, (fun z => nomatch z), fun d H3 b3 pool3 d0 d6 => ?_⟩
      have hR3 := b3 _ _ hR2 (by simpa using nRp)
      refine ⟨_, _, rfl, rfl, ⟨by decide, by decide⟩, _, rfl, by omega, by omega, ?_⟩
      obtain ⟨k, hk⟩ : ∃ k : Nat, k = (d / 4).toNat := ⟨_, rfl⟩
      have hk1 : k ≤ 1 := by omega
      rw [← hk]
      refine for_range (lo := 0) (n := k) (fun j σ' H' => ∃ (v4 : Option V) (ws2 : List Str) (m2 : Nat), σ' = [some (.ref p), some (.ref l), some (.ref R), v3, v4] ∧ But [p] H H' ∧ Pool H' p C ∧ H' R = some (.lst (ws2.map V.str)) ∧ Spd zs ws2 m2 ∧ ws2.length ≤ ws.length + j ∧ m2 ≤ m + 2 * j) ⟨v4, ws, m, rfl, b2.trans b3, pool3, hR3, spd, by omega, by omega⟩ ?_ ?_
      · rintro j σ' H4 hj ⟨v4, ws2, m2, rfl, b4, pool4, hR4, spd4, wl4, ml4⟩
        refine ⟨_, rfl, .inl ⟨rfl, _, SqL.of hR4⟩, _, rfl, p, C, 3, rfl, pool4, by decide, by decide, (fun z => nomatch z), fun e H5 b5 pool5 e0 e3 => ?_⟩
        have hR5 := b5 _ _ hR4 (by simpa using nRp)
        obtain ⟨e, rfl⟩ : ∃ n : Nat, e = n := ⟨e.toNat, by omega⟩
        refine ⟨(" " : Str), (e : Int), rfl, rfl, by omega, by omega, by decide +kernel, R, _, _, rfl, rfl, hR5, by rw [List.length_map]; exact small1000 (by omega), ?_⟩
        have b6 : But [R] H5 (upd H5 R (.lst (ws2.map V.str ++ [.str (spc e)]))) := But.upd (by simp) _
        exact ⟨_, ws2 ++ [spc e], m2 + e, rfl, fun c o hc hn => b6 _ _ ((b4.trans b5) c o hc hn) (by simpa using ne_of_none hc hR), pool5.but b6 (by simpa using nRC) (by simpa using nRp.symm), by rw [upd_same, List.map_append]; rfl, spd4.blank (by omega), by simp only [List.length_append, List.length_singleton]; omega, by omega⟩
      · rintro σ' H4 ⟨v4, ws2, m2, rfl, b4, pool4, hR4, spd4, wl4, ml4⟩
        exact ⟨v4, ws2, m2, rfl, b4, pool4, hR4, spd4, by omega, by omega⟩
    rintro σ' H4 ⟨v4, ws2, m2, rfl, b4, pool4, hR4, spd4, wl4, ml4⟩
    have sm := spd4.sum
    refine ⟨⟨_, rfl⟩, _, rfl, _, R, ws2, rfl, rfl, .inl (SqL.of hR4), ?_, ?_⟩
    · have z : (("\n" : Str)).length = 1 := by decide +kernel
      rw [z, sm]; omega
    · exact q ws2 m2 H4 b4 pool4 spd4 (by omega) (by omega)
end
end Kp
end
section
set_option Elab.async false
set_option linter.all false
set_option maxRecDepth 100000
set_option maxHeartbeats 4000000
namespace Kp
open PySem L2

open Ka Kd_
/-- how Program ends, without the tree -/
def outC (os : List (Option Stm)) : Option (Option Nat × Nat) := match outA os with
  | .inl p => some p
  | .inr _ => none
def okB : Stm → Bool
  | .pl (.num x n) => decide (97 ≤ x) && decide (x < 123) && decide (n < 1000)
  | .pl (.copy x y) => decide (97 ≤ x) && decide (x < 123) && (decide (97 ≤ y) && decide (y < 123))
  | .pl (.pair x y z) => decide (97 ≤ x) && decide (x < 123) && (decide (97 ≤ y) && decide (y < 123)) && (decide (97 ≤ z) && decide (z < 123))
  | .pl (.hd x y) => decide (97 ≤ x) && decide (x < 123) && (decide (97 ≤ y) && decide (y < 123))
  | .pl (.tl x y) => decide (97 ≤ x) && decide (x < 123) && (decide (97 ≤ y) && decide (y < 123))
  | .pl (.prt x) => decide (97 ≤ x) && decide (x < 123)
  | _ => true
theorem okB_ok {s : Stm} (h : okB s = true) : Stm.okA s := by
  cases s with
  | pl l =>
    cases l <;> simp only [okB, Bool.and_eq_true, decide_eq_true_eq] at h <;> (simp only [Stm.okA, Ln.okA, lc]; omega)
  | _ => trivial
def saysB (zs : List Str) (ss : List Stm) : Bool := decide (zs = ss.map Stm.txt) && ss.all okB
def rowsB (ws : List Str) : Bool := ws.all (fun z => !z.cps.toList.contains 10 && decide (z.length ≤ 900)) && decide ((Txt.join ("\n" : Str) ws).length ≤ 4000)
def one5 : Stm := .pl (.num 97 1)
/-- what told says -/
def sayD : Option (Option Nat × Nat) → PyData
  | none => .none
  | some (none, r) => .tuple [.none, .str (reasonS r)]
  | some (some k, r) => .tuple [.int (k : Nat), .str (reasonS r)]
theorem mul_c (c n : Nat) : (Txt.mul (⟨#[c]⟩ : Str) (n : Int)).cps.toList = List.replicate n c := by
  have l1 : (((⟨#[c]⟩ : Str)).length == 0) = false := rfl
  unfold Txt.mul
  match n with
  | 0 => rw [if_pos (by omega)]; rfl
  | 1 =>
    rw [if_neg (by omega), if_pos (by simp)]; rfl
  | n + 2 =>
    rw [if_neg (by omega), if_neg (by rw [l1]; simp; omega)]
    show ((List.replicate (((n + 2 : Nat) : Int)).toNat #[c]).foldl (· ++ ·) #[]).toList = _
    rw [rep_cps, Int.toNat_natCast]; rfl
theorem mul_c_len (c n : Nat) : (Txt.mul (⟨#[c]⟩ : Str) (n : Int)).length = n := by
  show (Txt.mul (⟨#[c]⟩ : Str) (n : Int)).cps.size = n
  rw [← Array.length_toList, mul_c, List.length_replicate]
/-- one line, many ends of line -/
theorem far_join (z : Str) (n : Nat) : Txt.join ("\n" : Str) (z :: List.replicate n ("" : Str)) = z ++ Txt.mul ("\n" : Str) (n : Int) := by
  have e1 : ("\n" : Str) = (⟨#[10]⟩ : Str) := by decide +kernel
  have e2 : TL.tl ("\n" : Str) = [10] := by decide +kernel
  have e0 : TL.tl ("" : Str) = [] := by decide +kernel
  have key : ∀ (n : Nat) (l : List Nat), TL.joinL [10] (l :: List.replicate n []) = l ++ List.replicate n 10 := fun n => by
    induction n with
    | zero => intro l; simp [TL.joinL]
    | succ n ih =>
      intro l
      rw [List.replicate_succ]
      show l ++ ([10] ++ TL.joinL [10] ([] :: List.replicate n [])) = _
      rw [ih, List.replicate_succ]; simp
  refine str_x ?_
  rw [TL.join_eq]
  have h := TL.tl_join ("\n" : Str) (z :: List.replicate n ("" : Str))
  rw [List.map_cons, List.map_replicate, e0, e2, key] at h
  rw [cps_app, e1, mul_c, ← e1]
  exact h
def rMulSW : R2 := fun x y H Q => ∃ (z : Str) (k : Int), x = .str z ∧ y = .int k ∧ 0 ≤ k ∧ k ≤ 5000 ∧ z.length ≤ 10 ∧ Q (.str (Txt.mul z k)) H
theorem op_mulSW {X : Cx} : OpR X (binaryOp .Mult) rMulSW := by
  intro pins s σ H x y v u Q I rx ry h
  obtain ⟨z, k, rfl, rfl, k0, k1, z1, q⟩ := h
  obtain ⟨t, rfl⟩ := rx
  obtain ⟨t2, rfl⟩ := ry
  exact SB.mul (PyProof.Rows.mulOk_of 10 5000 z1 k1 (by omega) (by decide) (by decide)) fun t' k' => ⟨.str (Txt.mul z k), H, I.tok _, ⟨_, rfl⟩, q⟩
/-- what told says of a text -/
def ToldV (z : Str) (d : PyData) : Prop := (∃ (ws : List Str) (ss : List Stm), z = Txt.join ("\n" : Str) ws ∧ ws.length ≤ 4010 ∧ (∀ z ∈ ws, 10 ∉ z.cps.toList ∧ z.length ≤ 900) ∧ (Txt.join ("\n" : Str) ws).length ≤ 4000 ∧ ss.length ≤ 400 ∧ saysB (cleanR ws) ss = true ∧ d = sayD (outC (ss.map some))) ∨
  (4000 < z.length ∧ z.length ≤ 5000 ∧ d = .tuple [.str "long", .bool true])
/-- the same, of rows that can be looked through -/
theorem toldV_of {ws : List Str} {ss : List Stm} (h : (decide (ws.length ≤ 4010) && (rowsB ws && (decide (ss.length ≤ 400) && saysB (cleanR ws) ss))) = true) : ToldV (Txt.join ("\n" : Str) ws) (sayD (outC (ss.map some))) := by
  simp only [Bool.and_eq_true, decide_eq_true_eq] at h
  obtain ⟨h1, h2, h3, h4⟩ := h
  unfold rowsB at h2
  rw [Bool.and_eq_true, List.all_eq_true, decide_eq_true_eq] at h2
  refine .inl ⟨ws, ss, rfl, h1, fun z hz => ?_, h2.2, h3, h4, rfl⟩
  have := h2.1 z hz
  rw [Bool.and_eq_true, decide_eq_true_eq, Bool.not_eq_true'] at this
  exact ⟨fun hm => (by have h := List.contains_iff_mem.mpr hm; rw [this.1] at h; cases h), this.2⟩
section
variable {P : Program} {w : World} {K : PySem.W.Frag} {mg : Str → Option Value} {base : Heap}
def spToldV (K : PySem.W.Frag) (PT : Addr) : Sp := fun vs H Q _ => ∃ (z : Str) (d : PyData), vs = [.str z] ∧ GxR.TabG H PT ∧ ToldV z d ∧ ∀ (v : V) (H' : Hp), But [PT] H H' → GxR.TabG H' PT → Dp K H' v d → Q v H'
theorem ok_toldV {PT f : Addr} {fd : FuncData} {k : Nat} (F : FnOk P w K mg base CX0 k f fd ["text"] (spToldA K PT)) (G : FnOk P w K mg base CX0 k f fd ["text"] spToldL) : FnOk P w K mg base CX0 k f fd ["text"] (spToldV K PT) :=
  have a : ∀ vs H Q E, spToldV K PT vs H Q E → spToldA K PT vs H Q E ∨ spToldL vs H Q E := fun vs H Q E h => by
    obtain ⟨z, d, rfl, tab, tv, q⟩ := h
    rcases tv with ⟨ws, ss, rfl, h1, h2, h3, h4, h5, rfl⟩ | ⟨h1, h2, rfl⟩
    · unfold saysB at h5
      rw [Bool.and_eq_true, decide_eq_true_eq, List.all_eq_true] at h5
      refine .inl ⟨ss.map some, ws, rfl, tab, h1, h2, h3, by rw [h5.1]; exact says_all fun s hs => okB_ok (h5.2 s hs), by rw [List.length_map]; exact h4, ?_⟩
      unfold outC at q
      cases hO : outA (ss.map some) with
      | inr U =>
        rw [hO] at q
        exact fun H' b t => q _ H' b t .non
      | inl p =>
        obtain ⟨k, r⟩ := p
        rw [hO] at q
        intro t H' b tb ht
        refine q _ H' b tb ?_
        cases k with
        | none => exact .tup (SqT.of ht) (.cons .non (.cons (.str _) .nil))
        | some k => exact .tup (SqT.of ht) (.cons (.int _) (.cons (.str _) .nil))
    · exact .inr ⟨z, rfl, h1, h2, fun t H' sm ht => q _ H' (But.same sm _) (tab_but tab (But.same sm []) (by simp)) (.tup (SqT.of ht) (.cons (.str _) (.cons (.bl _) .nil)))⟩
  ⟨fun vs H Q E h => (a vs H Q E h).elim (F.len vs H Q E) (G.len vs H Q E), fun A outer s H args us vs Q E h1 h2 h3 h4 h => (a vs H Q E h).elim (F.run A outer s H args us vs Q E h1 h2 h3 h4) (G.run A outer s H args us vs Q E h1 h2 h3 h4)⟩
end
end Kp
end
section
set_option Elab.async false
set_option linter.all false
set_option maxRecDepth 100000
set_option maxHeartbeats 4000000
namespace Kp
open PySem L2

open Ka Kd_
/-! The law's own texts. -/
def dueD (m : Nat) (w : Str) : PyData := if m = 0 then .none else .tuple [.none, .str w]
def SumOk (ws : List Str) : Prop := (ws.map (·.length)).sum + ws.length * ("\n" : Str).length ≤ 16777216
def many_ (m : Nat) : List Str := (["a = 7", "b = 7", "c = 7", "d = 7", "e = 7", "f = 7"] : List Str) ++ (["x = 7", "y = 7", "z = 7"] : List Str).take m
def manyS (m : Nat) : List Stm := [.pl (.num 97 7), .pl (.num 98 7), .pl (.num 99 7), .pl (.num 100 7), .pl (.num 101 7), .pl (.num 102 7)] ++ ([.pl (.num 120 7), .pl (.num 121 7), .pl (.num 122 7)] : List Stm).take m
def rows80 : List Str := List.replicate 80 "a = 1"
def stms80 : List Stm := List.replicate 80 (.pl (.num 97 1))
def wsA (m : Nat) : List Str := rows80 ++ List.replicate m ("a = b" : Str) ++ [("{" : Str)]
def wsB (m : Nat) : List Str := rows80 ++ List.replicate m ("a = b" : Str)
def wsC (m : Nat) : List Str := List.replicate (5 + m) ("{" : Str) ++ List.replicate (5 + m) ("}" : Str)
def wsD (m : Nat) : List Str := wsC m ++ rows80
def wsF (m : Nat) : List Str := many_ m ++ [("{" : Str)]
def heard0 : List Str := ["a = [b, c]", "a = d.head", "print e", "print f"]
def heard1 : List Str := ["a = g", "print g", "a = g.tail", "a = [a, g]", "a = [g, a]"]
def wsG (m : Nat) : List Str := heard0 ++ heard1.take m
def wsH (m : Nat) : List Str := many_ m ++ List.replicate 6 ("{" : Str) ++ List.replicate 6 ("}" : Str)
def wsJ (m : Nat) : List Str := (List.replicate 20 (many_ m)).flatten ++ [("}" : Str)]
theorem toldE {ws : List Str} {d : PyData} (ss : List Stm) (c : Option (Option Nat × Nat)) (h : (decide (ws.length ≤ 4010) && (rowsB ws && (decide (ss.length ≤ 400) && saysB (cleanR ws) ss))) = true) (hc : outC (ss.map some) = c) (e : d = sayD c) : ToldV (Txt.join ("\n" : Str) ws) d := by
  rw [e, ← hc]; exact toldV_of h
theorem toldA {m : Nat} (h : m = 0 ∨ m = 1) : ToldV (Txt.join ("\n" : Str) (wsA m)) (.tuple [.int (80 + m : Nat), .str "open"]) ∧ SumOk (wsA m) := by
  rcases h with rfl | rfl
  · exact ⟨toldE (stms80 ++ List.replicate 0 (.pl (.copy 97 98)) ++ [.block]) (some (some 80, 4)) (by decide +kernel) (by decide +kernel) rfl, by unfold SumOk; decide +kernel⟩
  · exact ⟨toldE (stms80 ++ List.replicate 1 (.pl (.copy 97 98)) ++ [.block]) (some (some 81, 4)) (by decide +kernel) (by decide +kernel) rfl, by unfold SumOk; decide +kernel⟩
theorem toldB {m : Nat} (h : m = 0 ∨ m = 1) : ToldV (Txt.join ("\n" : Str) (wsB m)) (dueD m "lines") ∧ SumOk (wsB m) := by
  rcases h with rfl | rfl
  · exact ⟨toldE (stms80 ++ List.replicate 0 (.pl (.copy 97 98))) none (by decide +kernel) (by decide +kernel) rfl, by unfold SumOk; decide +kernel⟩
  · exact ⟨toldE (stms80 ++ List.replicate 1 (.pl (.copy 97 98))) (some (none, 5)) (by decide +kernel) (by decide +kernel) rfl, by unfold SumOk; decide +kernel⟩
theorem toldC {m : Nat} (h : m = 0 ∨ m = 1) : ToldV (Txt.join ("\n" : Str) (wsC m)) (dueD m "depth") ∧ SumOk (wsC m) := by
  rcases h with rfl | rfl
  · exact ⟨toldE (List.replicate (5 + 0) .block ++ List.replicate (5 + 0) .fin) none (by decide +kernel) (by decide +kernel) rfl, by unfold SumOk; decide +kernel⟩
  · exact ⟨toldE (List.replicate (5 + 1) .block ++ List.replicate (5 + 1) .fin) (some (none, 6)) (by decide +kernel) (by decide +kernel) rfl, by unfold SumOk; decide +kernel⟩
theorem toldD {m : Nat} (h : m = 0 ∨ m = 1) : ToldV (Txt.join ("\n" : Str) (wsD m)) (.tuple [.none, .str "lines"]) ∧ SumOk (wsD m) := by
  rcases h with rfl | rfl
  · exact ⟨toldE (List.replicate (5 + 0) .block ++ List.replicate (5 + 0) .fin ++ stms80) (some (none, 5)) (by decide +kernel) (by decide +kernel) rfl, by unfold SumOk; decide +kernel⟩
  · exact ⟨toldE (List.replicate (5 + 1) .block ++ List.replicate (5 + 1) .fin ++ stms80) (some (none, 5)) (by decide +kernel) (by decide +kernel) rfl, by unfold SumOk; decide +kernel⟩
theorem toldM {m : Nat} (h : m = 0 ∨ m = 1) : ToldV (Txt.join ("\n" : Str) (many_ m)) (dueD m "variables") ∧ SumOk (many_ m) := by
  rcases h with rfl | rfl
  · exact ⟨toldE (manyS 0) none (by decide +kernel) (by decide +kernel) rfl, by unfold SumOk; decide +kernel⟩
  · exact ⟨toldE (manyS 1) (some (none, 7)) (by decide +kernel) (by decide +kernel) rfl, by unfold SumOk; decide +kernel⟩
theorem toldF {m : Nat} (h : m = 0 ∨ m = 1) : ToldV (Txt.join ("\n" : Str) (wsF m)) (.tuple [.int (6 + m : Nat), .str "open"]) ∧ SumOk (wsF m) := by
  rcases h with rfl | rfl
  · exact ⟨toldE (manyS 0 ++ [.block]) (some (some 6, 4)) (by decide +kernel) (by decide +kernel) rfl, by unfold SumOk; decide +kernel⟩
  · exact ⟨toldE (manyS 1 ++ [.block]) (some (some 7, 4)) (by decide +kernel) (by decide +kernel) rfl, by unfold SumOk; decide +kernel⟩
theorem toldG {m : Nat} (h : m = 0 ∨ m = 1) : ToldV (Txt.join ("\n" : Str) (wsG m)) (dueD m "variables") ∧ SumOk (wsG m) := by
  rcases h with rfl | rfl
  · exact ⟨toldE [.pl (.pair 97 98 99), .pl (.hd 97 100), .pl (.prt 101), .pl (.prt 102)] none (by decide +kernel) (by decide +kernel) rfl, by unfold SumOk; decide +kernel⟩
  · exact ⟨toldE [.pl (.pair 97 98 99), .pl (.hd 97 100), .pl (.prt 101), .pl (.prt 102), .pl (.copy 97 103)] (some (none, 7)) (by decide +kernel) (by decide +kernel) rfl, by unfold SumOk; decide +kernel⟩
theorem toldH {m : Nat} (h : m = 0 ∨ m = 1) : ToldV (Txt.join ("\n" : Str) (wsH m)) (.tuple [.none, .str "depth"]) ∧ SumOk (wsH m) := by
  rcases h with rfl | rfl
  · exact ⟨toldE (manyS 0 ++ List.replicate 6 .block ++ List.replicate 6 .fin) (some (none, 6)) (by decide +kernel) (by decide +kernel) rfl, by unfold SumOk; decide +kernel⟩
  · exact ⟨toldE (manyS 1 ++ List.replicate 6 .block ++ List.replicate 6 .fin) (some (none, 6)) (by decide +kernel) (by decide +kernel) rfl, by unfold SumOk; decide +kernel⟩
theorem toldJ {m : Nat} (h : m = 0 ∨ m = 1) : ToldV (Txt.join ("\n" : Str) (wsJ m)) (.tuple [.int ((6 + m) * 20 : Nat), .str "no block"]) ∧ SumOk (wsJ m) := by
  rcases h with rfl | rfl
  · exact ⟨toldE ((List.replicate 20 (manyS 0)).flatten ++ [.fin]) (some (some 120, 1)) (by decide +kernel) (by decide +kernel) rfl, by unfold SumOk; decide +kernel⟩
  · exact ⟨toldE ((List.replicate 20 (manyS 1)).flatten ++ [.fin]) (some (some 140, 1)) (by decide +kernel) (by decide +kernel) rfl, by unfold SumOk; decide +kernel⟩
theorem toldI {m : Nat} (h : m = 0 ∨ m = 1) : ToldV (("a = 1" : Str) ++ Txt.mul ("\n" : Str) ((3995 + m : Nat) : Int)) (if m = 0 then .none else .tuple [.str "long", .bool true]) := by
  have e1 : ("\n" : Str) = (⟨#[10]⟩ : Str) := by decide +kernel
  have len : ∀ n : Nat, (("a = 1" : Str) ++ Txt.mul ("\n" : Str) (n : Int)).length = 5 + n := fun n => by
    rw [Str.length_append, e1, mul_c_len]; rfl
  rcases h with rfl | rfl
  · refine .inl ⟨("a = 1" : Str) :: List.replicate 3995 ("" : Str), [.pl (.num 97 1)], (far_join _ _).symm, by rw [List.length_cons, List.length_replicate]; decide, fun z hz => ?_, by rw [far_join, len]; decide, by decide, ?_, by rw [show outC ([Stm.pl (.num 97 1)].map some) = none by decide +kernel]; rfl⟩
    · rcases List.mem_cons.mp hz with rfl | hz
      · decide +kernel
      · rw [(List.mem_replicate.mp hz).2]; decide +kernel
    · have e : cleanR (("a = 1" : Str) :: List.replicate 3995 ("" : Str)) = [("a = 1" : Str)] := by
        unfold cleanR
        have e0 : Txt.lstripChars ("" : Str) (" " : Str) = ("" : Str) := by decide +kernel
        have e2 : Txt.lstripChars ("a = 1" : Str) (" " : Str) = ("a = 1" : Str) := by decide +kernel
        rw [List.map_cons, List.map_replicate, e0, e2, List.filter_cons_of_pos (by decide +kernel), List.filter_replicate_of_neg (by simp)]
      rw [e]; decide +kernel
  · exact .inr ⟨by rw [len]; decide, by rw [len]; decide, rfl⟩
theorem toldK : ToldV (Txt.mul ("}" : Str) 4001) (.tuple [.str "long", .bool true]) := by
  have e1 : ("}" : Str) = (⟨#[125]⟩ : Str) := by decide +kernel
  have len : (Txt.mul ("}" : Str) ((4001 : Nat) : Int)).length = 4001 := by rw [e1, mul_c_len]
  exact .inr ⟨by rw [show (4001 : Int) = ((4001 : Nat) : Int) from rfl, len]; decide, by rw [show (4001 : Int) = ((4001 : Nat) : Int) from rfl, len]; decide, rfl⟩
end Kp
end
section
set_option Elab.async false
set_option linter.all false
set_option maxRecDepth 100000
set_option maxHeartbeats 4000000
namespace Kp
open PySem L2

open Ka Kd_
section
variable {K : PySem.W.Frag}
mutual
theorem dp_same {H H' : Hp} (s : Same H H') : ∀ (d : PyData) (v : V), Dp K H v d → Dp K H' v d
  | .none, _, h => by cases h; exact .non
  | .bool b, _, h => by cases h; exact .bl b
  | .int i, _, h => by cases h; exact .int i
  | .str x, _, h => by cases h; exact .str x
  | .list ds, _, h => by
    cases h with
    | lst h1 h2 => exact .lst (h1.ext s) (dp_sameA s ds _ h2)
  | .tuple ds, _, h => by
    cases h with
    | tup h1 h2 => exact .tup (h1.ext s) (dp_sameA s ds _ h2)
theorem dp_sameA {H H' : Hp} (s : Same H H') : ∀ (ds : List PyData) (vs : List V), DpAll K H vs ds → DpAll K H' vs ds
  | [], _, h => by cases h; exact .nil
  | d :: ds, _, h => by
    cases h with
    | cons h1 h2 => exact .cons (dp_same s d _ h1) (dp_sameA s ds _ h2)
end
/-- none, or a tuple of what is said -/
def DueV (K : PySem.W.Frag) (H : Hp) (v : V) (m : Nat) (w : Str) : Prop := (m = 0 ∧ v = .non) ∨ (m ≠ 0 ∧ ∃ t, v = .ref t ∧ SqT K H t [.non, .str w])
theorem DueV.keep {H H' : Hp} {v : V} {m : Nat} {w : Str} (h : DueV K H v m w) (k : KeepT K H H') : DueV K H' v m w := by
  rcases h with h | ⟨h, t, rfl, ht⟩
  · exact .inl h
  · exact .inr ⟨h, t, rfl, k _ _ ht⟩
theorem DueV.dp {H : Hp} {v : V} {m : Nat} {w : Str} (h : DueV K H v m w) : Dp K H v (dueD m w) := by
  rcases h with ⟨rfl, rfl⟩ | ⟨h, t, rfl, ht⟩
  · exact .non
  · unfold dueD; rw [if_neg h]; exact .tup ht (.cons .non (.cons (.str _) .nil))
theorem dueT {σ : L2.St} {H : Hp} {Q : VK} {m : Nat} {w : Str} (hσ : σ[2]? = some (some (.int (m : Nat)))) (h : ∀ v H', Same H H' → DueV K H' v m w → Q v H') : tIf (tTest (tOp rEq (tVar 2) (tC (.int 0)))) (tC .non) (tTup (tCons (tC .non) (tCons (tC (.str w)) tNil))) σ H Q := by
  refine ⟨_, hσ, rfl, _, rfl, ?_⟩
  by_cases m0 : m = 0
  · subst m0
    refine iteT (B := True) ?_
    exact h _ _ (Same.refl _) (.inl ⟨rfl, rfl⟩)
  · rw [decide_eq_false (fun y => m0 (by have y := V.int.inj y; omega))]
    refine iteF (A := True) ?_
    refine ⟨by show 2 ≤ sizeLine; decide, fun t ht => ?_⟩
    exact h _ _ (same_new ht _) (.inr ⟨m0, t, rfl, SqT.of upd_same⟩)
theorem rep_flat (n : Nat) (z : Str) : (List.replicate ((n : Nat) : Int).toNat [V.str z]).flatten = (List.replicate n z).map V.str := by
  rw [Int.toNat_natCast]
  induction n with
  | zero => rfl
  | succ n ih => rw [List.replicate_succ, List.replicate_succ, List.flatten_cons, ih]; rfl
theorem neEnd {x y : V} {H : Hp} {Q : VK} (d e : PyData) (hd : Dp K H x d) (he : Dp K H y e) (c : (SeqAt.shaped d && (SeqAt.shaped e && PyData.eqv d e)) = true) (q : Q (.bl false) H) : rNeD K x y H Q := by
  simp only [Bool.and_eq_true] at c
  exact ⟨d, e, hd, he, c.1, c.2.1, by rw [c.2.2]; exact q⟩
theorem eqEnd {x y : V} {H : Hp} {Q : VK} (d e : PyData) (hd : Dp K H x d) (he : Dp K H y e) (c : (SeqAt.shaped d && (SeqAt.shaped e && PyData.eqv d e)) = true) (q : Q (.bl true) H) : rEqD K x y H Q := by
  simp only [Bool.and_eq_true] at c
  exact ⟨d, e, hd, he, c.1, c.2.1, by rw [c.2.2]; exact q⟩
end
end Kp
end
section
set_option Elab.async false
set_option linter.all false
set_option maxRecDepth 100000
set_option maxHeartbeats 4000000
namespace Kp
open PySem L2

open Ka Kd_
/-! Terms that make lists of texts. -/
/-- te makes a list of the texts zs -/
def Gives (te : TE) (σ : L2.St) (H : Hp) (zs : List Str) : Prop := ∀ R : VK, (∀ (c : Addr) (H' : Hp), Same H H' → H' c = some (.lst (zs.map V.str)) → R (.ref c) H') → te σ H R
theorem Gives.var {σ : L2.St} {H : Hp} {zs : List Str} {i : Nat} {L : Addr} (h : σ[i]? = some (some (.ref L))) (hL : H L = some (.lst (zs.map V.str))) : Gives (tVar i) σ H zs := fun R r => ⟨_, h, r L H (Same.refl _) hL⟩
theorem Gives.one {σ : L2.St} {H : Hp} {z : Str} : Gives (tLst (tCons (tC (.str z)) tNil)) σ H [z] := fun R r => ⟨by show 1 ≤ sizeLine; decide, fun c hc => r c _ (same_new hc _) upd_same⟩
theorem Gives.rep {ta te : TE} {σ : L2.St} {H : Hp} {zs : List Str} {n : Nat} (ga : Gives ta σ H zs) (h : ∀ (H1 : Hp) (R : VK), R (.int (n : Nat)) H1 → te σ H1 R) (hn : n ≤ 1000) (hz : zs.length ≤ 1000) : Gives (tOp rRep ta te) σ H (List.replicate n zs).flatten := by
  intro R r
  have e : ∀ n : Nat, (List.replicate n (zs.map V.str)).flatten = ((List.replicate n zs).flatten).map V.str := fun n => by
    induction n with
    | zero => rfl
    | succ n ih => rw [List.replicate_succ, List.replicate_succ, List.flatten_cons, List.flatten_cons, List.map_append, ih]
  refine ga _ fun c H1 s1 e1 => h H1 _ ⟨c, _, _, rfl, rfl, e1, by omega, by omega, ?_, fun D hD => ?_⟩
  · rw [List.length_map, Int.toNat_natCast]
    have : zs.length * n ≤ 1000 * 1000 := Nat.mul_le_mul hz hn
    have : (1000 * 1000 : Nat) ≤ sizeLine := by decide +kernel
    omega
  · rw [Int.toNat_natCast, e]
    exact r D _ (s1.trans (same_new hD _)) upd_same
theorem flat_one (n : Nat) (z : Str) : (List.replicate n [z]).flatten = List.replicate n z := by
  induction n with
  | zero => rfl
  | succ n ih => rw [List.replicate_succ, List.replicate_succ, List.flatten_cons, ih]; rfl
theorem Gives.repOne {te : TE} {σ : L2.St} {H : Hp} {z : Str} {n : Nat} (h : ∀ (H1 : Hp) (R : VK), R (.int (n : Nat)) H1 → te σ H1 R) (hn : n ≤ 1000) : Gives (tOp rRep (tLst (tCons (tC (.str z)) tNil)) te) σ H (List.replicate n z) := by
  have := Gives.rep (Gives.one (σ := σ) (H := H) (z := z)) h hn (by show 1 ≤ 1000; decide)
  rwa [flat_one] at this
theorem Gives.cat {ta tb : TE} {σ : L2.St} {H : Hp} {xs ys : List Str} (ga : Gives ta σ H xs) (gb : ∀ H1, Same H H1 → Gives tb σ H1 ys) (h : xs.length + ys.length ≤ 5000) : Gives (tOp rCat ta tb) σ H (xs ++ ys) := by
  intro R r
  have big : (5000 : Nat) ≤ sizeLine := by decide +kernel
  refine ga _ fun a H1 s1 e1 => gb H1 s1 _ fun b H2 s2 e2 => ⟨a, b, _, _, rfl, rfl, s2 _ _ e1, e2, by rw [List.length_map, List.length_map]; omega, fun c hc => ?_⟩
  rw [← List.map_append]
  exact r c _ ((s1.trans s2).trans (same_new hc _)) upd_same
/-- texts that stand in a display -/
def tCs : List Str → TA
  | [] => tNil
  | z :: zs => tCons (tC (.str z)) (tCs zs)
theorem tCs_run {σ : L2.St} : ∀ (zs : List Str) {H : Hp} {Q : List V → Hp → Prop}, Q (zs.map V.str) H → tCs zs σ H Q
  | [], _, _, h => h
  | z :: zs, H, Q, h => tCs_run zs (Q := fun xs H2 => Q (.str z :: xs) H2) h
theorem Gives.lst {σ : L2.St} {H : Hp} (zs : List Str) (h : zs.length ≤ 1000) : Gives (tLst (tCs zs)) σ H zs := fun R r =>
  tCs_run zs ⟨by rw [List.length_map]; exact small30 h, fun c hc => r c _ (same_new hc _) upd_same⟩
theorem cut_upto (xs : List V) (k : Nat) : cutV xs none (some ((k : Nat) : Int)) = xs.take k := by
  unfold cutV
  rw [HT.sIx_nat]
  show List.take (min k xs.length - 0) (xs.drop 0) = _
  rw [List.drop_zero, Nat.sub_zero]
  by_cases h : k ≤ xs.length
  · rw [Nat.min_eq_left h]
  · rw [Nat.min_eq_right (by omega), List.take_length, List.take_of_length_le (by omega)]
theorem Gives.slice {K : PySem.W.Frag} {ta : TE} {σ : L2.St} {H : Hp} {zs : List Str} {i m : Nat} (ga : Gives ta σ H zs) (hi : σ[i]? = some (some (.int (m : Nat)))) : Gives (tSl (rSlL K) ta tNoPart (tPart (tVar i))) σ H (zs.take m) := fun R r =>
  ga _ fun c H1 s1 e1 => ⟨_, hi, _, rfl, c, _, rfl, SqL.of e1, fun q hq => by
    rw [cut_upto, ← List.map_take]
    exact r q _ (s1.trans (same_new hq _)) upd_same⟩
end Kp
end
section
set_option Elab.async false
set_option linter.all false
set_option maxRecDepth 100000
set_option maxHeartbeats 4000000
namespace Kp
open PySem L2

open Ka Kd_
section
variable {P : Program} {w : World} {K : PySem.W.Frag} {mg : Str → Option Value} {base : Heap}
theorem keepT_pt {K : PySem.W.Frag} {PT : Addr} {H H' : Hp} (t : GxR.TabG H PT) (b : But [PT] H H') : KeepT K H H' := b.keepT fun m hm => by
  rw [List.mem_singleton.mp hm]
  obtain ⟨ps, h, _⟩ := t; rw [h]; trivial
def spLmt (K : PySem.W.Frag) (PT : Addr) : Sp := fun vs H Q _ => ∃ (p C : Addr), vs = [.ref p] ∧ Pool H p C ∧ GxR.TabG H PT ∧ ∀ H', But [p, PT] H H' → Pool H' p C → GxR.TabG H' PT → Q (.bl true) H'
theorem scN_lmt : FnScope ["pool", "kind", "more", "lines", "due", "deep", "many", "letter", "heard", "far"] ["pool"] (defScope s_L_limits) := ⟨rfl, rfl, rfl, by decide +kernel, rfl, by decide +kernel, by decide +kernel⟩
theorem ok_lmt {PT : Addr} (T : Tx K w mg) (G_L_told : FnOk P w K mg base CX0 6 T.f_L_told T.d_L_told ["text"] (spToldV K PT)) : FnOk P w K mg base CX0 7 T.f_L_limits T.d_L_limits ["pool"] (spLmt K PT) := by
  have G_L_take := ok_take (P := P) (base := base) T
  refine T.L_limits.F.ok scN_lmt (fun vs H Q E h => ?_) (fun cdv A outer s H vs Q E hr h => ?_)
  · obtain ⟨p, C, rfl, _⟩ := h
    rfl
  · obtain ⟨p, C, rfl, pool, tab, q⟩ := h
    have hr2 := hr.mono (by decide : 2 ≤ 6)
    refine ⟨_, (pss_cons (ps_set (i := 1) scN_lmt.nd rfl (.inl rfl) (pe_call G_L_take hr2 (by rfl) T.L_take.g T.L_take.F.kp T.L_take.b .nil pass0 (pa_cons (pv 0) (pa_cons pe_int pa_nil))))
        (pss_cons (ps_set (i := 2) scN_lmt.nd rfl (.inl rfl) (pe_call G_L_take hr2 (by rfl) T.L_take.g T.L_take.F.kp T.L_take.b .nil pass0 (pa_cons (pv 0) (pa_cons pe_int pa_nil))))
        (pss_cons (ps_set (i := 3) scN_lmt.nd rfl (.inl rfl) (pe_op op_rep (pe_lst (pa_cons pe_str pa_nil)) pe_int))
        (pss_cons (ps_if (pt_cmpR op_eq (pv 1) pe_int (nomark _)) (pss_cons (ps_set (i := 4) scN_lmt.nd rfl (.inl rfl) (pe_ifExp (pt_cmpR op_eq (pv 2) pe_int (nomark _)) pe_non (pe_tup (pa_cons pe_non (pa_cons pe_str pa_nil)))))
        (pss_cons (ps_if (pt_cmpR (op_neD hr.units) (pe_call G_L_told hr (by rfl) T.L_told.g T.L_told.F.kp T.L_told.b .nil pass0 (pa_cons (pe_join pe_str (pe_op op_cat (pe_op op_cat (pv 3) (pe_op op_rep (pe_lst (pa_cons pe_str pa_nil)) (pv 2))) (pe_lst (pa_cons pe_str pa_nil)))) pa_nil)) (pe_tup (pa_cons (pe_op op_add pe_int (pv 2)) (pa_cons pe_str pa_nil))) (nomark _)) (pss_one (ps_ret pe_bl)) pss_nil)
        (pss_one (ps_ret (pe_cmpR (op_eqD hr.units) (pe_call G_L_told hr (by rfl) T.L_told.g T.L_told.F.kp T.L_told.b .nil pass0 (pa_cons (pe_join pe_str (pe_op op_cat (pv 3) (pe_op op_rep (pe_lst (pa_cons pe_str pa_nil)) (pv 2)))) pa_nil)) (pv 4) (nomark _)))))) pss_nil)
        (pss_cons (ps_set (i := 5) scN_lmt.nd rfl (.inl rfl) (pe_op op_cat (pe_op op_rep (pe_lst (pa_cons pe_str pa_nil)) (pe_op op_add pe_int (pv 2))) (pe_op op_rep (pe_lst (pa_cons pe_str pa_nil)) (pe_op op_add pe_int (pv 2)))))
        (pss_cons (ps_if (pt_cmpR op_eq (pv 1) pe_int (nomark _)) (pss_cons (ps_set (i := 4) scN_lmt.nd rfl (.inl rfl) (pe_ifExp (pt_cmpR op_eq (pv 2) pe_int (nomark _)) pe_non (pe_tup (pa_cons pe_non (pa_cons pe_str pa_nil)))))
        (pss_one (ps_ret (pe_and (pe_cmpR (op_eqD hr.units) (pe_call G_L_told hr (by rfl) T.L_told.g T.L_told.F.kp T.L_told.b .nil pass0 (pa_cons (pe_join pe_str (pv 5)) pa_nil)) (pv 4) (nomark _)) (pe_one (pe_cmpR (op_eqD hr.units) (pe_call G_L_told hr (by rfl) T.L_told.g T.L_told.F.kp T.L_told.b .nil pass0 (pa_cons (pe_join pe_str (pe_op op_cat (pv 5) (pv 3))) pa_nil)) (pe_tup (pa_cons pe_non (pa_cons pe_str pa_nil))) (nomark _))))))) pss_nil)
        (pss_cons (ps_setLc (i := 6) (own := [("letter", 7)]) (g := gName 7) (tt := tYes) rfl scN_lmt.nd rfl rfl (sw_true rfl rfl rfl (by decide +kernel)) (pi_str (pe_op op_add_str pe_str (pe_slice sl_str pe_str po_none (po_some (pv 2))))) (blkOk_by (own := [("letter", 7)]) (N := ["pool", "kind", "more", "lines", "due", "deep", "many", "letter", "heard", "far"]) (sc := defScope s_L_limits) (by decide +kernel)) (fun _ _ _ _ _ => (pg_name (i := 7) scN_lmt.nd rfl (.inl rfl))) (fun _ _ _ _ _ => pts_nil) (fun _ _ _ _ _ => (pe_op op_add_str (pv 7) pe_str)))
        (pss_cons (ps_if (pt_cmpR op_eq (pv 1) pe_int (nomark _)) (pss_cons (ps_set (i := 4) scN_lmt.nd rfl (.inl rfl) (pe_ifExp (pt_cmpR op_eq (pv 2) pe_int (nomark _)) pe_non (pe_tup (pa_cons pe_non (pa_cons pe_str pa_nil)))))
        (pss_cons (ps_if (pt_cmpR (op_neD hr.units) (pe_call G_L_told hr (by rfl) T.L_told.g T.L_told.F.kp T.L_told.b .nil pass0 (pa_cons (pe_join pe_str (pv 6)) pa_nil)) (pv 4) (nomark _)) (pss_one (ps_ret pe_bl)) pss_nil)
        (pss_cons (ps_if (pt_cmpR (op_neD hr.units) (pe_call G_L_told hr (by rfl) T.L_told.g T.L_told.F.kp T.L_told.b .nil pass0 (pa_cons (pe_join pe_str (pe_op op_cat (pv 6) (pe_lst (pa_cons pe_str pa_nil)))) pa_nil)) (pe_tup (pa_cons (pe_callB call_len_seq (by rfl) T.B.len PySem.boot_len (pa_cons (pv 6) pa_nil)) (pa_cons pe_str pa_nil))) (nomark _)) (pss_one (ps_ret pe_bl)) pss_nil)
        (pss_cons (ps_set (i := 8) scN_lmt.nd rfl (.inl rfl) (pe_op op_cat (pe_lst (pa_cons pe_str (pa_cons pe_str (pa_cons pe_str (pa_cons pe_str pa_nil))))) (pe_slice sl_list (pe_lst (pa_cons pe_str (pa_cons pe_str (pa_cons pe_str (pa_cons pe_str (pa_cons pe_str pa_nil)))))) po_none (po_some (pv 2)))))
        (pss_cons (ps_if (pt_cmpR (op_neD hr.units) (pe_call G_L_told hr (by rfl) T.L_told.g T.L_told.F.kp T.L_told.b .nil pass0 (pa_cons (pe_join pe_str (pv 8)) pa_nil)) (pv 4) (nomark _)) (pss_one (ps_ret pe_bl)) pss_nil)
        (pss_one (ps_ret (pe_cmpR (op_eqD hr.units) (pe_call G_L_told hr (by rfl) T.L_told.g T.L_told.F.kp T.L_told.b .nil pass0 (pa_cons (pe_join pe_str (pe_op op_cat (pe_op op_cat (pv 6) (pe_op op_rep (pe_lst (pa_cons pe_str pa_nil)) pe_int)) (pe_op op_rep (pe_lst (pa_cons pe_str pa_nil)) pe_int))) pa_nil)) (pe_tup (pa_cons pe_non (pa_cons pe_str pa_nil))) (nomark _))))))))) pss_nil)
        (pss_cons (ps_set (i := 9) scN_lmt.nd rfl (.inl rfl) (pe_op op_add_str pe_str (pe_op op_mulSW pe_str (pe_op op_add pe_int (pv 2)))))
        (pss_cons (ps_if (pt_cmpR op_eq (pv 1) pe_int (nomark _)) (pss_one (ps_ret (pe_cmpR (op_eqD hr.units) (pe_call G_L_told hr (by rfl) T.L_told.g T.L_told.F.kp T.L_told.b .nil pass0 (pa_cons (pv 9) pa_nil)) (pe_ifExp (pt_cmpR op_eq (pv 2) pe_int (nomark _)) pe_non (pe_tup (pa_cons pe_str (pa_cons pe_bl pa_nil)))) (nomark _)))) pss_nil)
        (pss_one (ps_ret (pe_and (pe_cmpR (op_eqD hr.units) (pe_call G_L_told hr (by rfl) T.L_told.g T.L_told.F.kp T.L_told.b .nil pass0 (pa_cons (pe_op op_mulSW pe_str pe_int) pa_nil)) (pe_tup (pa_cons pe_str (pa_cons pe_bl pa_nil))) (nomark _)) (pe_one (pe_cmpR (op_eqD hr.units) (pe_call G_L_told hr (by rfl) T.L_told.g T.L_told.F.kp T.L_told.b .nil pass0 (pa_cons (pe_join pe_str (pe_op op_cat (pe_op op_rep (pv 6) pe_int) (pe_lst (pa_cons pe_str pa_nil)))) pa_nil)) (pe_tup (pa_cons (pe_op op_mul (pe_callB call_len_seq (by rfl) T.B.len PySem.boot_len (pa_cons (pv 6) pa_nil)) pe_int) (pa_cons pe_str pa_nil))) (nomark _)))))))))))))))), ?_⟩
    have pp : ∀ {H : Hp}, Pool H p C → (∃ xs, H p = some (.lst xs)) ∧ ∃ xs, H C = some (.lst xs) := fun {H} h => by obtain ⟨ns, i, c, z, h1, h2, _⟩ := h; exact ⟨⟨_, h1⟩, _, h2⟩
    have npt : ∀ {H : Hp} {b : Addr} {o : HO}, GxR.TabG H PT → H b = some o → (∀ ps, o ≠ .tbl ps) → PT ≠ b := fun {H b o} h e n z => by
      obtain ⟨ps, q, _⟩ := h
      rw [z, e] at q; exact n ps (Option.some.inj q)
    have tabp : ∀ {H H2 : Hp}, Pool H p C → GxR.TabG H PT → But [p] H H2 → GxR.TabG H2 PT := fun {H H2} po ta b => tab_but ta b (by
      obtain ⟨⟨_, h⟩, _⟩ := pp po
      simp only [List.mem_singleton]; exact npt ta h (fun ps z => by cases z))
    have big : (5002 : Nat) ≤ sizeLine := by decide +kernel
    refine ⟨_, rfl, p, C, 5, rfl, pool, by decide, by decide, (fun z => nomatch z), fun kd H1 b1 P1 kd0 kd1 => ?_⟩
    have t1 := tabp pool tab b1
    refine ⟨_, rfl, p, C, 2, rfl, P1, by decide, by decide, (fun z => nomatch z), fun mr H2 b2 P2 mr0 mr1 => ?_⟩
    have t2 := tabp P1 t1 b2
    have b02 : But [p, PT] H H2 := fun c o hc hn => (b1.trans b2) c o hc (by simp only [List.mem_cons, List.not_mem_nil, or_false, not_or] at hn ⊢; exact hn.1)
    -- the end
    have q2 : ∀ H', But [PT] H2 H' → GxR.TabG H' PT → Q (.bl true) H' := fun H' b t => by
      obtain ⟨⟨_, h1⟩, _, h2⟩ := pp P2
      refine q H' (fun c o hc hn => b c o (b02 c o hc hn) (by simp only [List.mem_cons, List.not_mem_nil, or_false, not_or] at hn ⊢; exact hn.2)) (P2.but b (by simpa using (npt t2 h2 (fun ps z => by cases z)).symm) (by simpa using (npt t2 h1 (fun ps z => by cases z)).symm)) t
    clear q b02 b2 b1 pool tab t1 P1
    obtain ⟨m, rfl, hm⟩ : ∃ n : Nat, mr = n ∧ n ≤ 1 := ⟨mr.toNat, by omega, by omega⟩
    obtain ⟨k, rfl, hk⟩ : ∃ n : Nat, kd = n ∧ n ≤ 4 := ⟨kd.toNat, by omega, by omega⟩
    clear mr0 mr1 kd0 kd1
    refine ⟨by show 1 ≤ sizeLine; decide, fun u hu => ⟨u, 80, _, rfl, rfl, upd_same, by decide, by decide, by show 1 * 80 ≤ sizeLine; decide, fun L hL => ?_⟩⟩
    have hL3 : upd (upd H2 u (.lst [.str "a = 1"])) L (.lst (List.replicate (80 : Int).toNat [V.str "a = 1"]).flatten) L = some (.lst (rows80.map V.str)) := by rw [upd_same]; rfl
    have s3 : Same H2 (upd (upd H2 u (.lst [.str "a = 1"])) L (.lst (List.replicate (80 : Int).toNat [V.str "a = 1"]).flatten)) := (same_new hu _).trans (same_new hL _)
    generalize upd (upd H2 u (.lst [.str "a = 1"])) L (.lst (List.replicate (80 : Int).toNat [V.str "a = 1"]).flatten) = H3 at hL3 s3 ⊢
    have t3 := tab_but t2 (But.same s3 []) (by simp)
    have q3 : ∀ H', But [PT] H3 H' → GxR.TabG H' PT → Q (.bl true) H' := fun H' b t => q2 H' ((But.same s3 _).trans b) t
    clear q2 s3 t2 hL hu
    have mc : m = 0 ∨ m = 1 := by omega
    have nk : ∀ j : Nat, k ≠ j → ∀ z : Int, z = j → decide (V.int (k : Nat) = V.int z) = false := fun j h z ez => decide_eq_false (fun y => h (by have y := V.int.inj y; omega))
    refine ⟨_, rfl, rfl, _, rfl, ?_⟩
    by_cases k0 : k = 0
    · subst k0
      refine iteT (B := True) ?_
      refine dueT (K := K) (m := m) rfl fun v4 H4 s4 d4 => ?_
      have t4 := tab_but t3 (But.same s4 []) (by simp)
      have b4 : But [PT] H3 H4 := But.same s4 _
      have hL4 := s4 _ _ hL3
      clear hL3 s4
      refine ⟨⟨_, rfl⟩, ?_⟩
      refine (Gives.cat (Gives.cat (Gives.var (L := L) rfl hL4) (fun H1 s1 => Gives.repOne (n := m) (fun H2 R r => ⟨_, rfl, r⟩) (by omega)) (by rcases mc with rfl | rfl <;> decide +kernel)) (fun H1 s1 => Gives.one) (by rcases mc with rfl | rfl <;> decide +kernel) : Gives _ _ _ (wsA m)) _ fun D H5 s5 e5 => ?_
      refine ⟨_, D, _, rfl, rfl, .inl (SqL.of e5), (toldA mc).2, ?_⟩
      refine ⟨_, _, rfl, tab_but t4 (But.same s5 []) (by simp), (toldA mc).1, fun v6 H6 b6 t6 d6 => ?_⟩
      have b46 : But [PT] H4 H6 := (But.same s5 _).trans b6
      refine ⟨_, rfl, _, _, rfl, rfl, by show 2 ≤ sizeLine; decide, fun u2 hu2 => neEnd (.tuple [.int (80 + m : Nat), .str "open"]) (.tuple [.int (80 + (m : Int)), .str "open"]) (dp_same (same_new hu2 _) _ _ d6) (.tup (SqT.of upd_same) (.cons (.int _) (.cons (.str _) .nil))) (by rcases mc with rfl | rfl <;> decide +kernel) ⟨_, rfl, iteF (A := True) ?_⟩⟩
      have s7 := same_new hu2 (.tup [.int (80 + (m : Int)), .str "open"])
      generalize upd H6 u2 (.tup [.int (80 + (m : Int)), .str "open"]) = H7 at s7 ⊢
      have b47 : But [PT] H4 H7 := b46.trans (But.same s7 _)
      have t7 := tab_but t6 (But.same s7 []) (by simp)
      have hL7 := b47 _ _ hL4 (by simpa using (npt t4 hL4 (fun ps z => by cases z)).symm)
      have d7 := d4.keep (keepT_pt t4 b47)
      refine ⟨⟨_, rfl⟩, ?_⟩
      refine (Gives.cat (Gives.var (L := L) rfl hL7) (fun H1 s1 => Gives.repOne (n := m) (fun H2 R r => ⟨_, rfl, r⟩) (by omega)) (by rcases mc with rfl | rfl <;> decide +kernel) : Gives _ _ _ (wsB m)) _ fun D H8 s8 e8 => ?_
      refine ⟨_, D, _, rfl, rfl, .inl (SqL.of e8), (toldB mc).2, ?_⟩
      have t8 := tab_but t7 (But.same s8 []) (by simp)
      refine ⟨_, _, rfl, t8, (toldB mc).1, fun v9 H9 b9 t9 d9 => ?_⟩
      refine ⟨_, rfl, eqEnd (dueD m "lines") (dueD m "lines") d9 ((d7.keep ((Same.keepT s8).trans (keepT_pt t8 b9))).dp) (by rcases mc with rfl | rfl <;> decide +kernel) ?_⟩
      exact q3 _ (b4.trans (b47.trans ((But.same s8 _).trans b9))) t9
    rw [nk 0 k0 0 rfl]
    refine iteF (A := True) ?_
    -- deep
    refine (Gives.cat (Gives.repOne (n := 5 + m) (fun H2 R r => ⟨_, rfl, _, _, rfl, rfl, r⟩) (by omega)) (fun H1 s1 => Gives.repOne (n := 5 + m) (fun H2 R r => ⟨_, rfl, _, _, rfl, rfl, r⟩) (by omega)) (by rcases mc with rfl | rfl <;> decide +kernel) : Gives _ _ _ (wsC m)) _ fun LC H4 s4 eC => ?_
    have t4 := tab_but t3 (But.same s4 []) (by simp)
    have hL4 := s4 _ _ hL3
    have q4 : ∀ H', But [PT] H4 H' → GxR.TabG H' PT → Q (.bl true) H' := fun H' b t => q3 H' ((But.same s4 _).trans b) t
    clear q3 hL3 t3 s4
    refine ⟨_, rfl, rfl, _, rfl, ?_⟩
    by_cases k1 : k = 1
    · subst k1
      refine iteT (B := True) ?_
      refine dueT (K := K) (m := m) rfl fun v5 H5 s5 d5 => ?_
      have t5 := tab_but t4 (But.same s5 []) (by simp)
      have hL5 := s5 _ _ hL4
      have eC5 := s5 _ _ eC
      refine ⟨⟨_, rfl⟩, _, rfl, _, LC, wsC m, rfl, rfl, .inl (SqL.of eC5), (toldC mc).2, ?_⟩
      refine ⟨_, _, rfl, t5, (toldC mc).1, fun v6 H6 b6 t6 d6 => ?_⟩
      refine ⟨_, rfl, eqEnd (dueD m "depth") (dueD m "depth") d6 (d5.keep (keepT_pt t5 b6)).dp (by rcases mc with rfl | rfl <;> decide +kernel) ?_⟩
      refine ⟨_, rfl, ?_⟩
      refine iteT (B := True) ?_
      have b46 : But [PT] H4 H6 := (But.same s5 _).trans b6
      have hL6 := b46 _ _ hL4 (by simpa using (npt t4 hL4 (fun ps z => by cases z)).symm)
      have eC6 := b46 _ _ eC (by simpa using (npt t4 eC (fun ps z => by cases z)).symm)
      refine ⟨⟨_, rfl⟩, ?_⟩
      refine (Gives.cat (Gives.var (L := LC) rfl eC6) (fun H1 s1 => Gives.var (L := L) rfl (s1 _ _ hL6)) (by rcases mc with rfl | rfl <;> decide +kernel) : Gives _ _ _ (wsD m)) _ fun D H7 s7 e7 => ?_
      refine ⟨_, D, _, rfl, rfl, .inl (SqL.of e7), (toldD mc).2, ?_⟩
      refine ⟨_, _, rfl, tab_but t6 (But.same s7 []) (by simp), (toldD mc).1, fun v8 H8 b8 t8 d8 => ?_⟩
      refine ⟨by show 2 ≤ sizeLine; decide, fun u2 hu2 => eqEnd (.tuple [.none, .str "lines"]) (.tuple [.none, .str "lines"]) (dp_same (same_new hu2 _) _ _ d8) (.tup (SqT.of upd_same) (.cons .non (.cons (.str _) .nil))) (by decide +kernel) ?_⟩
      have s9 := same_new hu2 (.tup [.non, .str "lines"])
      exact q4 _ (b46.trans ((But.same s7 _).trans (b8.trans (But.same s9 _)))) (tab_but t8 (But.same s9 []) (by simp))
    rw [nk 1 k1 1 rfl]
    refine iteF (A := True) ?_
    -- many
    refine ⟨_, rfl, _, rfl, "xyz", rfl, by decide +kernel, "abcdef", _, rfl, rfl, (by rcases mc with rfl | rfl <;> decide +kernel), _, rfl, fun LM hLM => ?_⟩
    have hz : (("abcdef" : Str) ++ cutS ("xyz" : Str) none (some (m : Int))).cps.toList.map (fun c => (⟨#[c]⟩ : Str) ++ " = 7") = many_ m := (by rcases mc with rfl | rfl <;> decide +kernel)
    generalize ("abcdef" : Str) ++ cutS ("xyz" : Str) none (some (m : Int)) = z at hz ⊢
    have zl : z.cps.size = (many_ m).length := by rw [← hz, List.length_map, Array.length_toList]
    have ml : (many_ m).length = 6 + m := (by rcases mc with rfl | rfl <;> decide +kernel)
    refine lc_it (walk_str (z := z)) (fun i H' => Same H4 H' ∧ H' LM = some (.lst (((many_ m).take i).map V.str))) ⟨same_new hLM _, upd_same⟩ ?_ ?_ ?_
    · rintro i H' _ _
      trivial
    · rintro i x H9 H10 hi ⟨s9, h9⟩ ⟨rfl, c, hc, rfl⟩
      have gi : (many_ m)[i]? = some ((⟨#[c]⟩ : Str) ++ " = 7") := by
        rw [← hz, List.getElem?_map, Array.getElem?_toList, hc]; rfl
      have hi2 : i < 8 := by omega
      refine ⟨rfl, _, rfl, _, _, rfl, rfl, by show 1 + 4 ≤ sizeLine; decide, _, h9, by rw [List.length_map, List.length_take]; exact small1000 (by omega), fun a o ha => ?_, ?_⟩
      · rw [upd_ne (ne_of_none ha hLM)]; exact s9 _ _ ha
      · rw [upd_same, take_snoc gi, List.map_append]; rfl
    rintro H5 ⟨s5, e5⟩
    rw [zl, List.take_length] at e5
    have t5 := tab_but t4 (But.same s5 []) (by simp)
    have q5 : ∀ H', But [PT] H5 H' → GxR.TabG H' PT → Q (.bl true) H' := fun H' b t => q4 H' ((But.same s5 _).trans b) t
    clear q4 hL4 t4 s5 eC hz
    refine ⟨_, rfl, rfl, _, rfl, ?_⟩
    by_cases k2 : k = 2
    · subst k2
      refine iteT (B := True) ?_
      refine dueT (K := K) (m := m) rfl fun v6 H6 s6 d6 => ?_
      have t6 := tab_but t5 (But.same s6 []) (by simp)
      have e6 := s6 _ _ e5
      refine ⟨⟨_, rfl⟩, _, rfl, _, LM, many_ m, rfl, rfl, .inl (SqL.of e6), (toldM mc).2, ?_⟩
      refine ⟨_, _, rfl, t6, (toldM mc).1, fun v7 H7 b7 t7 d7 => ?_⟩
      have D7 := d6.keep (keepT_pt t6 b7)
      refine ⟨_, rfl, neEnd (dueD m "variables") (dueD m "variables") d7 D7.dp (by rcases mc with rfl | rfl <;> decide +kernel) ⟨_, rfl, iteF (A := True) ?_⟩⟩
      have q7 : ∀ H', But [PT] H7 H' → GxR.TabG H' PT → Q (.bl true) H' := fun H' b t => q5 H' ((But.same s6 _).trans (b7.trans b)) t
      have e7 := b7 _ _ e6 (by simpa using (npt t6 e6 (fun ps z => by cases z)).symm)
      clear q5 e6 t6 s6 d6 d7 b7 e5 t5
      -- many + ['{']
      refine ⟨⟨_, rfl⟩, ?_⟩
      refine (Gives.cat (Gives.var (L := LM) rfl e7) (fun H1 s1 => Gives.one) (by rcases mc with rfl | rfl <;> decide +kernel) : Gives _ _ _ (wsF m)) _ fun D H8 s8 e8 => ?_
      refine ⟨_, D, _, rfl, rfl, .inl (SqL.of e8), (toldF mc).2, ?_⟩
      have t8 := tab_but t7 (But.same s8 []) (by simp)
      refine ⟨_, _, rfl, t8, (toldF mc).1, fun v9 H9 b9 t9 d9 => ?_⟩
      have b79 : But [PT] H7 H9 := (But.same s8 _).trans b9
      have e9 := b79 _ _ e7 (by simpa using (npt t7 e7 (fun ps z => by cases z)).symm)
      refine ⟨_, rfl, LM, _, rfl, .inl (SqL.of e9), by show 2 ≤ sizeLine; decide, fun u2 hu2 => ?_⟩
      rw [List.length_map, ml] at *
      refine neEnd (.tuple [.int (6 + m : Nat), .str "open"]) (.tuple [.int (6 + m : Nat), .str "open"]) (dp_same (same_new hu2 _) _ _ d9) (.tup (SqT.of upd_same) (.cons (.int _) (.cons (.str _) .nil))) (by rcases mc with rfl | rfl <;> decide +kernel) ⟨_, rfl, iteF (A := True) ?_⟩
      have s10 := same_new hu2 (.tup [.int (6 + m : Nat), .str "open"])
      generalize upd H9 u2 (.tup [.int (6 + m : Nat), .str "open"]) = H10 at s10 ⊢
      have b710 := b79.trans (But.same s10 _)
      have t10 := tab_but t9 (But.same s10 []) (by simp)
      have D10 := D7.keep (keepT_pt t7 b710)
      have e10 := s10 _ _ e9
      clear b79 b9 t9 d9 e9 t8 s8 e8
      -- heard
      refine (Gives.cat (Gives.lst heard0 (by decide)) (fun H1 s1 => Gives.slice (K := K) (m := m) (Gives.lst heard1 (by decide)) rfl) (by rcases mc with rfl | rfl <;> decide +kernel) : Gives _ _ _ (wsG m)) _ fun LH H11 s11 e11 => ?_
      have t11 := tab_but t10 (But.same s11 []) (by simp)
      refine ⟨⟨_, rfl⟩, _, rfl, _, LH, wsG m, rfl, rfl, .inl (SqL.of e11), (toldG mc).2, ?_⟩
      refine ⟨_, _, rfl, t11, (toldG mc).1, fun v12 H12 b12 t12 d12 => ?_⟩
      have b1012 : But [PT] H10 H12 := (But.same s11 _).trans b12
      refine ⟨_, rfl, neEnd (dueD m "variables") (dueD m "variables") d12 (D10.keep (keepT_pt t10 b1012)).dp (by rcases mc with rfl | rfl <;> decide +kernel) ⟨_, rfl, iteF (A := True) ?_⟩⟩
      have e12 := b1012 _ _ e10 (by simpa using (npt t10 e10 (fun ps z => by cases z)).symm)
      refine ⟨⟨_, rfl⟩, ?_⟩
      refine (Gives.cat (Gives.cat (Gives.var (L := LM) rfl e12) (fun H1 s1 => Gives.repOne (n := 6) (fun H2 R r => r) (by decide)) (by rcases mc with rfl | rfl <;> decide +kernel)) (fun H1 s1 => Gives.repOne (n := 6) (fun H2 R r => r) (by decide)) (by rcases mc with rfl | rfl <;> decide +kernel) : Gives _ _ _ (wsH m)) _ fun D H13 s13 e13 => ?_
      refine ⟨_, D, _, rfl, rfl, .inl (SqL.of e13), (toldH mc).2, ?_⟩
      refine ⟨_, _, rfl, tab_but t12 (But.same s13 []) (by simp), (toldH mc).1, fun v14 H14 b14 t14 d14 => ?_⟩
      refine ⟨by show 2 ≤ sizeLine; decide, fun u3 hu3 => eqEnd (.tuple [.none, .str "depth"]) (.tuple [.none, .str "depth"]) (dp_same (same_new hu3 _) _ _ d14) (.tup (SqT.of upd_same) (.cons .non (.cons (.str _) .nil))) (by decide +kernel) ?_⟩
      have s15 := same_new hu3 (.tup [.non, .str "depth"])
      exact q7 _ (b710.trans (b1012.trans ((But.same s13 _).trans (b14.trans (But.same s15 _))))) (tab_but t14 (But.same s15 []) (by simp))
    rw [nk 2 k2 2 rfl]
    refine iteF (A := True) ?_
    -- far
    refine ⟨_, rfl, _, _, rfl, rfl, "\n", _, rfl, rfl, by omega, by omega, by decide +kernel, "a = 1", _, rfl, rfl, ?_, ?_⟩
    · rcases mc with rfl | rfl
      · rw [show ("\n" : Str) = (⟨#[10]⟩ : Str) by decide +kernel, show (3995 : Int) + ((0 : Nat) : Int) = ((3995 : Nat) : Int) from rfl, mul_c_len]; decide +kernel
      · rw [show ("\n" : Str) = (⟨#[10]⟩ : Str) by decide +kernel, show (3995 : Int) + ((1 : Nat) : Int) = ((3996 : Nat) : Int) from rfl, mul_c_len]; decide +kernel
    refine ⟨_, rfl, rfl, _, rfl, ?_⟩
    by_cases k3 : k = 3
    · subst k3
      refine iteT (B := True) ?_
      refine ⟨_, rfl, _, _, rfl, t5, toldI mc, fun v6 H6 b6 t6 d6 => ?_⟩
      refine ⟨_, rfl, rfl, _, rfl, ?_⟩
      rcases mc with rfl | rfl
      · refine iteT (B := True) ?_
        exact eqEnd .none .none d6 .non (by decide +kernel) (q5 _ b6 t6)
      · refine iteF (A := True) ?_
        refine ⟨by show 2 ≤ sizeLine; decide, fun u2 hu2 => eqEnd (.tuple [.str "long", .bool true]) (.tuple [.str "long", .bool true]) (dp_same (same_new hu2 _) _ _ d6) (.tup (SqT.of upd_same) (.cons (.str _) (.cons (.bl _) .nil))) (by decide +kernel) ?_⟩
        have s7 := same_new hu2 (.tup [.str "long", .bl true])
        exact q5 _ (b6.trans (But.same s7 _)) (tab_but t6 (But.same s7 []) (by simp))
    rw [nk 3 k3 3 rfl]
    refine iteF (A := True) ?_
    refine ⟨"}", 4001, rfl, rfl, by decide, by decide, by decide +kernel, _, _, rfl, t5, toldK, fun v6 H6 b6 t6 d6 => ?_⟩
    refine ⟨by show 2 ≤ sizeLine; decide, fun u2 hu2 => eqEnd (.tuple [.str "long", .bool true]) (.tuple [.str "long", .bool true]) (dp_same (same_new hu2 _) _ _ d6) (.tup (SqT.of upd_same) (.cons (.str _) (.cons (.bl _) .nil))) (by decide +kernel) ?_⟩
    have s7 := same_new hu2 (.tup [.str "long", .bl true])
    have b57 : But [PT] H5 (upd H6 u2 (.tup [.str "long", .bl true])) := b6.trans (But.same s7 _)
    have t7 := tab_but t6 (But.same s7 []) (by simp)
    have e7 := b57 _ _ e5 (by simpa using (npt t5 e5 (fun ps z => by cases z)).symm)
    generalize upd H6 u2 (.tup [.str "long", .bl true]) = H7 at b57 t7 e7 ⊢
    refine ⟨_, rfl, ?_⟩
    refine iteT (B := True) ?_
    refine ⟨⟨_, rfl⟩, ?_⟩
    refine (Gives.cat (Gives.rep (n := 20) (Gives.var (L := LM) rfl e7) (fun H2 R r => r) (by decide) (by omega)) (fun H1 s1 => Gives.one) (by rcases mc with rfl | rfl <;> decide +kernel) : Gives _ _ _ (wsJ m)) _ fun D H8 s8 e8 => ?_
    refine ⟨_, D, _, rfl, rfl, .inl (SqL.of e8), (toldJ mc).2, ?_⟩
    have t8 := tab_but t7 (But.same s8 []) (by simp)
    refine ⟨_, _, rfl, t8, (toldJ mc).1, fun v9 H9 b9 t9 d9 => ?_⟩
    have b79 : But [PT] H7 H9 := (But.same s8 _).trans b9
    have e9 := b79 _ _ e7 (by simpa using (npt t7 e7 (fun ps z => by cases z)).symm)
    refine ⟨_, rfl, LM, _, rfl, .inl (SqL.of e9), _, _, rfl, rfl, ?_⟩
    have eml : ((many_ m).map V.str).length = 6 + m := by rw [List.length_map, ml]
    rw [eml]
    refine ⟨.inl ⟨by omega, by omega⟩, by show 2 ≤ sizeLine; decide, fun u3 hu3 => eqEnd (.tuple [.int ((6 + m) * 20 : Nat), .str "no block"]) (.tuple [.int (((6 + m : Nat) : Int) * 20), .str "no block"]) (dp_same (same_new hu3 _) _ _ d9) (.tup (SqT.of upd_same) (.cons (.int _) (.cons (.str _) .nil))) (by rcases mc with rfl | rfl <;> decide +kernel) ?_⟩
    have s10 := same_new hu3 (.tup [.int (((6 + m : Nat) : Int) * 20), .str "no block"])
    exact q5 _ (b57.trans (b79.trans (But.same s10 _))) (tab_but t9 (But.same s10 []) (by simp))
end
end Kp
end
section
set_option Elab.async false
set_option linter.all false
set_option maxRecDepth 100000
set_option maxHeartbeats 4000000
namespace Kp
open PySem L2
/-! set of a list of texts. -/
def addAll (zs : List Str) : List Str := zs.foldl insT []
theorem addAll_snoc (zs : List Str) (z : Str) : addAll (zs ++ [z]) = insT (addAll zs) z := by unfold addAll; rw [List.foldl_append]; rfl
theorem insT_len (L : List Str) (k : Str) : (insT L k).length ≤ L.length + 1 := by
  unfold insT
  split
  · omega
  · simp
theorem addAll_len (zs : List Str) : (addAll zs).length ≤ zs.length := by
  have : ∀ (zs L : List Str), (zs.foldl insT L).length ≤ L.length + zs.length := fun zs => by
    induction zs with
    | nil => intro L; simp
    | cons z zs ih =>
      intro L
      have h1 := ih (insT L z)
      have h2 := insT_len L z
      rw [List.foldl_cons, List.length_cons]; omega
  have := this zs []
  simpa [addAll] using this
section
open PySem.Spec PyProof.Rows
theorem strs_at {vs : List Value} {zs : List Str} (h : StrsAre vs zs) : ∀ {i : Nat} {v : Value}, vs[i]? = some v → ∃ k t, zs[i]? = some k ∧ v = .str k t := by
  induction h with
  | nil => intro i v e; cases i <;> cases e
  | cons y t h ih =>
    intro i v e
    cases i with
    | zero => exact ⟨y, t, rfl, (Option.some.inj e).symm⟩
    | succ i => exact ih e
section
variable {P : Program} {w : World} {A : Around} {E : Value → Shared → Prop}
theorem loop_txts {I : Addr} {fp wr : List Addr} {G : Array GenState → Array GenState → Prop} {n : Nat} {Pv : Nat → Value → Prop} {St : Nat → Shared → Prop} {R : Result → Shared → Prop}
    (W : WalksS P w A.in1 I fp wr G n Pv St) (S : Addr) (apart : S ∉ fp) (zs : List Str) (many : n = zs.length) (few : zs.length + 1 < scanBound) (each : ∀ i v, Pv i v → ∃ k t, zs[i]? = some k ∧ v = .str k t) :
    ∀ (left i : Nat) (s : Shared), n - i = left → i ≤ n → St i s → SetT w (addAll (zs.take i)) s.heap S → (∀ s', Moved (S :: wr) G s s' → SetT w (addAll zs) s'.heap S → R (.ok (.ret .none)) s') →
      codeAny (model P w) A (.builtin "set.update.loop" ⟨[.ref S, .ref I], []⟩) R s := by
  have nw : S ∉ wr := fun h => apart (W.sub _ h)
  have wider : ∀ b ∈ wr, b ∈ S :: wr := fun b hb => List.mem_cons_of_mem _ hb
  intro left
  induction left with
  | zero =>
    intro i s hk hi hst hS hR
    obtain rfl : i = n := by omega
    refine codeAny_builtin F.entry_set_update_loop ?_
    rw [Around.under_plainId F.plain_set_update_loop _]
    show wpAny _ A.in1 (pyNext (.ref I) >>= _) _ _ s
    refine wpAny_bind (W.done s _ _ hst fun s' mv => ?_)
    show wpAny _ A.in1 (ret Value.none) _ _ s'
    rw [List.take_of_length_le (by omega)] at hS
    exact wpAny_pure (hR s' (mv.mono wider) (hS.at fun o e => mv.heap S o nw e))
  | succ left ih =>
    intro i s hk hi hst hS hR
    have lt : i < n := by omega
    refine codeAny_builtin F.entry_set_update_loop ?_
    rw [Around.under_plainId F.plain_set_update_loop _]
    show wpAny _ A.in1 (pyNext (.ref I) >>= _) _ _ s
    refine wpAny_bind (W.item i s _ _ lt hst fun v s' pv st' mv => ?_)
    obtain ⟨z, t, hz, rfl⟩ := each i v pv
    have hS1 : SetT w (addAll (zs.take i)) s'.heap S := hS.at fun o e => mv.heap S o nw e
    show wpAny _ A.in1 (holding [Value.str z t] (setAdd S (.str z t)) >>= _) _ _ s'
    refine wpAny_bind (wpAny_holding ?_)
    unfold setAdd
    refine wpAny_holding ?_
    refine wpAny_bind ((strKind P w).pyHash (strKind_is P w z t) ?_)
    have l1 := addAll_len (zs.take i)
    have l2 : (zs.take i).length ≤ zs.length := by rw [List.length_take]; omega
    refine setT_hashed (s := { s' with toks := s'.toks + 1 }) hS1 (by omega) fun b h' sb hS2 => ?_
    have hS3 : SetT w (addAll (zs.take (i + 1))) h' S := by
      have e : zs.take (i + 1) = zs.take i ++ [z] := by rw [List.take_add_one, hz]; rfl
      rw [e, addAll_snoc]; exact hS2
    refine wpAny_pure ⟨plainId_quiet F.plain_set_update_loop _, ih (i + 1) _ (by omega) lt (W.frame _ s' _ _ st' (Nat.le_succ _) fun b hb o e => ?_) hS3 fun s2 mv2 hS4 => ?_⟩
    · rw [sb.2 b (fun h : b = S => apart (by rw [← h]; exact hb))]; exact e
    · refine hR s2 (Moved.trans W.gtrans ((mv.mono wider).then_heap (Nat.le_succ _) fun b o hb e => ?_) mv2) hS4
      rw [sb.2 b (fun h : b = S => hb (by rw [h]; exact List.mem_cons_self))]; exact e
end
section
variable {pr : Program} {wo : World} {A : Around} {E : Value → Shared → Prop} {st : Shared}
abbrev eSetT (wo : World) : Obj := { cls := .type "set", dict := none, data := .set #[] 0 (.fresh 0 0 (!wo.params.followText "set-order")) }
set_option maxHeartbeats 6400000 in
theorem set_of_listT {l : Addr} {vals : Array Value} (zs : List Str) {Q : Value → Shared → Prop} (calm : A.handled = none) (stands : st.heap.IsList l vals) (nums : StrsAre vals.toList zs) (few : zs.length + 1 < scanBound)
    (go : ∀ (h' : Heap) (tk : Nat), SetT wo (addAll zs) h' st.heap.objs.size → (∀ b o, st.heap.get? b = some o → h'.get? b = some o) → Q (.ref st.heap.objs.size) { st with heap := h', toks := tk }) :
    wpAny (model pr wo) A (call (.type "set") [.ref l]) Q E st := by
  have many : vals.size = zs.length := by rw [← Array.length_toList]; exact nums.length
  obtain ⟨c0, tl0, mro0⟩ := PySem.F.called_set.mro
  have made0 := PySem.F.called_set.made
  have sub0 := PySem.F.called_set.sub
  refine wpAny_call (codeAny_of_tree ?_)
  show wpAny _ _ (callAny (.type "set") ⟨[.ref l], []⟩) _ _ _
  refine wpAny_pure ⟨Code.quiet_builtin _ (by decide +kernel), codeAny_builtin PySem.F.entry_type_call ?_⟩
  rw [Around.under_plain (PySem.weight_type_call_type "set" [.ref l] []) rfl]
  have g1 := PySem.F.called_set.notType
  have g2 := PySem.F.called_set.canCreate
  have g3 := PySem.F.typeCall_set_1 (.ref l)
  repeat any_goals (first | assumption | wp_step)
  refine codeAny_mono (code_set_led1 (.ref l) (E := E) (Q₁ := fun ob st1 => ob = .ref st.heap.objs.size ∧ st1 = { st with heap := st.heap.push (eSetT wo) }) ⟨rfl, rfl⟩) fun r st1 hr => ?_
  cases r with
  | error e => exact hr
  | ok fl =>
    cases fl with
    | ret ob =>
      obtain ⟨rfl, rfl⟩ := hr
      have atS : (st.heap.push (eSetT wo)).get? st.heap.objs.size = some (eSetT wo) := Heap.get?_push_size _ rfl
      have isS : Shared.TypeIs { st with heap := st.heap.push (eSetT wo) } (.ref st.heap.objs.size) "set" := ⟨_, atS, rfl⟩
      have ini := PySem.F.called_set.init.lookup
      have bin := PySem.F.called_set.init.bind (.ref st.heap.objs.size)
      repeat any_goals (first | assumption | wp_step)
      refine codeAny_mono (codeAny_call_builtin (R := wants (fun r st2 => r = .none ∧ ∃ h' tk, st2 = { st with heap := h', toks := tk } ∧ SetT wo (addAll zs) h' st.heap.objs.size ∧
          (∀ b o, st.heap.get? b = some o → h'.get? b = some o)) E) PySem.F.called_set.init.plain PySem.F.entry_set_init (PySem.check_set_init_1 isS ?_)) fun r2 st2 hr2 => ?_
      · obtain ⟨ol, hol, hcl, nl, hdl⟩ := stands
        obtain ⟨oc, od, oda, osl⟩ := ol
        simp only at hcl hdl
        subst hcl; subst hdl
        have hol2 : (st.heap.push (eSetT wo)).get? l = some { cls := .type "list", dict := od, data := .seq vals nl, slots := osl } := Heap.get?_push_of_some _ hol
        have no1 := PySem.F.sub_list_set
        have no2 := PySem.F.sub_list_frozenset
        have no3 : (Value.type "list" == Value.type "dict") = false := by decide
        have isL : (st.heap.push (eSetT wo)).IsList l vals := ⟨_, hol2, rfl, nl, rfl⟩
        unfold Builtin.«set.__init__» noKeywords Builtin.Frozenset.updateFrom
        generalize hIt : pyIter = It
        wp_walk
        subst hIt
        refine wpAny_pyIter_list isL ?_
        refine wpAny_bind (wpAny_runValue ?_)
        have old : l < st.heap.objs.size := Heap.lt_size hol
        have calm3 : A.in1.in1.in1.handled = none := by simp [calm]
        have neI : l ≠ (st.heap.push (eSetT wo)).objs.size := by
          rw [Heap.size_push]
          exact Nat.ne_of_lt (Nat.lt_succ_of_lt old)
        have apartS : st.heap.objs.size ∉ [(st.heap.push (eSetT wo)).objs.size, l] := by
          rw [Heap.size_push]
          simp only [List.mem_cons, List.not_mem_nil, or_false, not_or]
          exact ⟨Nat.ne_of_lt (Nat.lt_succ_self _), Nat.ne_of_gt old⟩
        have each : ∀ (i : Nat) (v : Value), vals[i]? = some v → ∃ k t, zs[i]? = some k ∧ v = .str k t := fun i v hv => strs_at nums (by rw [Array.getElem?_toList]; exact hv)
        refine loop_txts ((Walks.list calm3 _ l neI vals).toS) st.heap.objs.size apartS zs many few each (vals.size - 0) 0 _ (by omega) (Nat.zero_le _)
          ⟨⟨_, Heap.get?_push_size _ rfl, rfl, rfl⟩, (isL.push _)⟩ ?start ?done
        case start =>
          exact (setT_fresh (h := st.heap) wo).at fun o e => Heap.get?_push_of_some _ e
        case done =>
          intro s' mv isR
          obtain ⟨h', gg, dd, tt, oo⟩ := s'
          obtain rfl : gg = st.gens := mv.gens
          obtain rfl : dd = st.drawn := mv.drawn
          obtain rfl : oo = st.os := mv.os
          show wpAny _ _ _ _ _ _
          refine wpAny_pure ?_
          show wpAny _ _ (ret Value.none) _ _ _
          refine wpAny_pure ⟨rfl, h', tt, rfl, isR, fun b o e => ?_⟩
          have b0 : b < st.heap.objs.size := Heap.lt_size e
          have b2 : b ≠ (st.heap.push (eSetT wo)).objs.size := by
            rw [Heap.size_push]
            exact Nat.ne_of_lt (Nat.lt_succ_of_lt b0)
          refine mv.heap b o ?_ (Heap.get?_push_of_some _ (Heap.get?_push_of_some _ e))
          simp only [List.mem_cons, List.not_mem_nil, or_false, not_or]
          exact ⟨Nat.ne_of_lt b0, b2⟩
      · cases r2 with
        | error e => exact hr2
        | ok fl2 =>
          cases fl2 with
          | ret r =>
            obtain ⟨rfl, h', tk, rfl, isR, keep⟩ := hr2
            repeat any_goals (first | assumption | wp_step)
            exact go _ _ isR keep
          | _ => exact hr2.elim
    | _ => exact hr.elim
end
section
variable {X : Cx}
def rSetLT (K : PySem.W.Frag) (w : World) : List V → Hp → VK → Prop := fun vs H Q => ∃ (a : Addr) (zs : List Str), vs = [V.ref a] ∧ SqL K H a (zs.map V.str) ∧ zs.length ≤ 1000 ∧ ∀ p, H p = none → Q (.ref p) (upd H p (SetTO w (addAll zs) p))
theorem cr_setLT (calm : X.calm = true) : CallR X (.type "set") (rSetLT X.K X.w) := by
  intro pins st σ H xs us Q I rel wish
  obtain ⟨a, zs, rfl, listA, few, q⟩ := wish
  obtain ⟨its, vals, stands, _⟩ := I.list listA
  rw [Vals.ref1 rel]
  refine set_of_listT zs (I.ok.hd calm) stands.isList (by simpa using vals.strs) (Nat.lt_of_le_of_lt (Nat.succ_le_succ few) (by decide +kernel)) fun h' tk hR hk => ?_
  exact ⟨.ref _, _, I.laid (t' := tk) hk (Nat.le_refl _) (setTO_new hR), rfl, q _ (I.hok.fresh (Nat.le_refl _))⟩
end
end
end Kp
end
section
set_option Elab.async false
set_option linter.all false
set_option maxRecDepth 100000
set_option maxHeartbeats 4000000
namespace Kp
open PySem L2
open Ka Kc
/-- the canonical rows -/
def canon (T : Ka.Tree) : List Str := ((T.ldeps 0).zip (T.flat.map Stm.txt)).map fun p => spc (2 * p.1) ++ p.2
theorem rep_cps2 : ∀ (n : Nat) (acc : Array Nat), ((List.replicate n #[32, 32]).foldl (· ++ ·) acc).toList = acc.toList ++ List.replicate (2 * n) 32
  | 0, acc => by simp
  | n + 1, acc => by
    rw [List.replicate_succ, List.foldl_cons, rep_cps2 n, Array.toList_append, show 2 * (n + 1) = 2 * n + 1 + 1 by omega, List.replicate_succ, List.replicate_succ]
    simp
theorem mul_sp2 (n : Nat) : Txt.mul ("  " : Str) (n : Int) = spc (2 * n) := by
  have e : ("  " : Str).cps = #[32, 32] := by decide +kernel
  have l1 : (("  " : Str).length == 0) = false := by decide +kernel
  refine str_x ?_
  rw [mul_sp]
  unfold Txt.mul
  match n with
  | 0 => rw [if_pos (by omega)]; rfl
  | 1 =>
    rw [if_neg (by omega), if_pos (by simp), e]; rfl
  | n + 2 =>
    rw [if_neg (by omega), if_neg (by rw [l1]; simp; omega), e]
    show ((List.replicate (((n + 2 : Nat) : Int)).toNat #[32, 32]).foldl (· ++ ·) #[]).toList = _
    rw [rep_cps2, Int.toNat_natCast]; rfl
theorem ldeps_le (T : Ka.Tree) : ∀ d, ∀ x ∈ T.ldeps d, x ≤ d + T.high := by
  induction T with
  | nil => intro d x h; cases h
  | ln l r ih =>
    intro d x h
    simp only [Tree.ldeps, Tree.high, List.mem_cons] at h ⊢
    rcases h with h | h
    · omega
    · have := ih _ _ h; omega
  | blk w b r ihb ihr =>
    intro d x h
    simp only [Tree.ldeps, Tree.high, List.mem_cons, List.mem_append] at h ⊢
    rcases h with h | h | h | h
    · omega
    · have := ihb _ _ h; omega
    · omega
    · have := ihr _ _ h; omega
  | br a b r iha ihb ihr =>
    intro d x h
    simp only [Tree.ldeps, Tree.high, List.mem_cons, List.mem_append] at h ⊢
    rcases h with h | h | h | h | h | h
    · omega
    · have := iha _ _ h; omega
    · omega
    · have := ihb _ _ h; omega
    · omega
    · have := ihr _ _ h; omega
section
variable {P : Program} {w : World} {K : PySem.W.Frag} {mg : Str → Option Value} {base : Heap}
def spTxt (K : PySem.W.Frag) (C : Addr) : Sp := fun vs H Q _ => ∃ (x : Addr) (T : Ka.Tree), vs = [.ref x] ∧ Nonempty (PF K C H x T) ∧ T.len ≤ 80 ∧ T.high ≤ 5 ∧ (∀ z ∈ T.flat.map Stm.txt, z.length ≤ 800) ∧ ∀ (H' : Hp), Same H H' → Q (.str (Txt.join ("\n" : Str) (canon T))) H'
theorem scN_txt : FnScope ["self", "depth", "line"] ["self"] (defScope s_Program_text) := ⟨rfl, rfl, rfl, by decide +kernel, rfl, by decide +kernel, by decide +kernel⟩
theorem ok_text (T : Tx K w mg) : FnOk P w K mg base CX0 1 T.f_Program_text T.d_Program_text ["self"] (spTxt K T.C_Program) := by
  refine T.Program_text.F.ok scN_txt (fun vs H Q E h => ?_) (fun cdv A outer s H vs Q E hr h => ?_)
  · obtain ⟨x, Tr, rfl, _⟩ := h
    rfl
  · obtain ⟨x, Tr, rfl, ⟨V0⟩, hT, h5, hz, q⟩ := h
    refine ⟨_, (pss_one (ps_ret (pe_join pe_str (pe_lc (own := [("depth", 1), ("line", 2)]) (g := gTup K 2 (gCons (gName 1) (gCons (gName 2) gNil))) (tt := tYes) rfl scN_txt.nd (RZ.pi_zipA (by rfl) T.B.zip (pa_cons (pe_fld (pv 0) rfl) (pa_cons (pe_fld (pv 0) rfl) pa_nil))) (blkOk_by (own := [("depth", 1), ("line", 2)]) (N := ["self", "depth", "line"]) (sc := defScope s_Program_text) (by decide +kernel)) (fun _ _ _ _ _ => (pg_tup rfl (pgs_cons (pg_name (i := 1) scN_txt.nd rfl (.inl rfl) (.inr rfl)) (pgs_cons (pg_name (i := 2) scN_txt.nd rfl (.inl rfl) (.inr rfl)) pgs_nil)))) (fun _ _ _ _ _ => pts_nil) (fun _ _ _ _ _ => (pe_op op_add_str (pe_op op_mulS pe_str (pv 1)) (pv 2))))))), ?_⟩
    have zl : (canon Tr).length = Tr.len := by
      unfold canon
      rw [List.length_map, List.length_zip, Kc.ldeps_length, List.length_map, flat_len, Nat.min_self]
    have ce : ∀ {i : Nat} {d : Nat} {z : Str}, (Tr.ldeps 0)[i]? = some d → (Tr.flat.map Stm.txt)[i]? = some z → (canon Tr)[i]? = some (spc (2 * d) ++ z) := fun {i d z} h1 h2 => by
      unfold canon
      rw [List.getElem?_map, List.getElem?_zip_eq_some (z := (d, z)) |>.mpr ⟨h1, h2⟩]; rfl
    have cl : ∀ y ∈ canon Tr, y.length ≤ 900 := fun y hy => by
      obtain ⟨p, hp, rfl⟩ := List.mem_map.mp hy
      have h1 := ldeps_le Tr 0 p.1 (List.of_mem_zip hp).1
      have h2 := hz p.2 (List.of_mem_zip hp).2
      rw [Str.length_append, spc_len]; omega
    refine ⟨⟨_, rfl⟩, _, rfl, x, _, _, _, _, rfl, V0.o, T.cl_Program, T.n_Program_line_depths, V0.lG, _, rfl, x, _, _, _, _, rfl, V0.o, T.cl_Program, T.n_Program_lines, V0.lL, V0.aG, V0.aL, _, _, rfl, .inr ⟨V0.G, V0.L, fun D hD => ?_⟩⟩
    have lg : ((Tr.ldeps 0).map fun n => V.int (n : Nat)).length = Tr.len := by rw [List.length_map, Kc.ldeps_length]
    have ll : ((Tr.flat.map Stm.txt).map V.str).length = Tr.len := by rw [List.length_map, List.length_map, flat_len]
    refine lc_it (walk_zipTm (n := Tr.len) (xs := (Tr.ldeps 0).map fun n => V.int (n : Nat)) (ys := (Tr.flat.map Stm.txt).map V.str) (by rw [lg, ll, Nat.min_self])) (fun i H' => Same H H' ∧ H' D = some (.lst (((canon Tr).take i).map V.str))) ⟨same_new hD _, upd_same⟩ ?_ ?_ ?_
    · rintro i H' _ ⟨sm, _⟩
      exact ⟨(Same.keepT sm) _ _ V0.G, (Same.keepT sm) _ _ V0.L⟩
    · rintro i y H' H'' hi ⟨sm, hus⟩ ⟨T0, x0, y0, rfl, hT0, rfl, ex0, ey0⟩
      have ex0 : ((Tr.ldeps 0).map fun n => V.int (n : Nat))[i]? = some x0 := ex0
      have ey0 : ((Tr.flat.map Stm.txt).map V.str)[i]? = some y0 := ey0
      rw [List.getElem?_map] at ex0 ey0
      obtain ⟨d, hd, rfl⟩ := Option.map_eq_some_iff.mp ex0
      obtain ⟨z, hz2, rfl⟩ := Option.map_eq_some_iff.mp ey0
      have sT := same_new hT0 (.tup [V.int (d : Nat), .str z])
      have hus2 := sT _ _ hus
      have hc := ce hd hz2
      have d5 := ldeps_le Tr 0 d (List.mem_of_getElem? hd)
      have z8 := hz z (List.mem_of_getElem? hz2)
      refine ⟨T0, [.int (d : Nat), .str z], rfl, SqT.of upd_same, rfl, _, _, rfl, _, _, rfl, rfl, rfl, ?_⟩
      generalize upd H' T0 (.tup [V.int (d : Nat), .str z]) = H2 at sT hus2 ⊢
      refine iteT (B := True) ?_
      refine ⟨_, rfl, ("  " : Str), (d : Int), rfl, rfl, by omega, by omega, by decide +kernel, _, rfl, Txt.mul ("  " : Str) (d : Int), z, rfl, rfl, ?_, _, hus2, by rw [List.length_map, List.length_take]; exact small1000 (by omega), fun c o hc => ?_, ?_⟩
      · rw [mul_sp2, spc_len]
        have : (4002 : Nat) ≤ sizeLine := by decide
        omega
      · rw [upd_ne (ne_of_none hc hD)]; exact sT _ _ (sm _ _ hc)
      · rw [upd_same, take_snoc hc, mul_sp2, List.map_append]; rfl
    · rintro H1 ⟨s1, hus⟩
      rw [List.take_of_length_le (by omega)] at hus
      refine ⟨_, D, canon Tr, rfl, rfl, .inl (SqL.of hus), ?_, q H1 s1⟩
      have z1 : (("\n" : Str)).length = 1 := by decide +kernel
      rw [z1]
      have := sum_le ((canon Tr).map (·.length)) 900 fun x hx => by
        obtain ⟨y, hy2, rfl⟩ := List.mem_map.mp hx
        exact cl y hy2
      rw [List.length_map] at this
      omega
end
end Kp
end
section
set_option Elab.async false
set_option linter.all false
set_option maxRecDepth 100000
set_option maxHeartbeats 4000000
namespace Kp
open PySem L2
open Ka Kc
theorem mem_insT {L : List Str} {k y : Str} : y ∈ insT L k ↔ y ∈ L ∨ y = k := by
  unfold insT
  split
  · rename_i h
    exact ⟨.inl, fun z => z.elim id fun e => e ▸ h⟩
  · rw [List.mem_append, List.mem_singleton]
theorem mem_growL {y : Str} : ∀ {vs : List V} {L : List Str}, y ∈ growL L vs ↔ y ∈ L ∨ V.str y ∈ vs := fun {vs} => by
  induction vs with
  | nil => intro L; simp [growL]
  | cons v vs ih =>
    intro L
    show y ∈ growL _ vs ↔ _
    rw [ih, List.mem_cons]
    cases v with
    | str t =>
      show y ∈ insT L t ∨ _ ↔ _
      rw [mem_insT]
      constructor
      · rintro ((h | rfl) | h)
        · exact .inl h
        · exact .inr (.inl rfl)
        · exact .inr (.inr h)
      · rintro (h | h | h)
        · exact .inl (.inl h)
        · exact .inl (.inr (V.str.inj h))
        · exact .inr h
    | _ => 
      constructor
      · rintro (h | h)
        · exact .inl h
        · exact .inr (.inr h)
      · rintro (h | h | h)
        · exact .inl h
        · cases h
        · exact .inr h
theorem mem_addAll {y : Str} (zs : List Str) : y ∈ addAll zs ↔ y ∈ zs := by
  have : ∀ (zs L : List Str), y ∈ zs.foldl insT L ↔ y ∈ L ∨ y ∈ zs := fun zs => by
    induction zs with
    | nil => intro L; simp
    | cons z zs ih =>
      intro L
      rw [List.foldl_cons, ih, mem_insT, List.mem_cons]
      constructor
      · rintro ((h | h) | h)
        · exact .inl h
        · exact .inr (.inl h)
        · exact .inr (.inr h)
      · rintro (h | h | h)
        · exact .inl (.inl h)
        · exact .inl (.inr h)
        · exact .inr h
  have h := this zs []
  simpa [addAll] using h
theorem insT_nodup {L : List Str} {k : Str} (h : L.Nodup) : (insT L k).Nodup := by
  unfold insT
  split
  · exact h
  · rename_i n
    rw [List.nodup_append]
    exact ⟨h, by simp, fun a ha b hb e => n (by rw [← List.mem_singleton.mp hb, ← e]; exact ha)⟩
theorem addAll_nodup (zs : List Str) : (addAll zs).Nodup := by
  have : ∀ (zs L : List Str), L.Nodup → (zs.foldl insT L).Nodup := fun zs => by
    induction zs with
    | nil => intro L h; exact h
    | cons z zs ih => intro L h; exact ih _ (insT_nodup h)
  exact this zs [] (by simp)
theorem mem_namesL {y : Str} (ss : List Stm) : y ∈ namesL ss ↔ ∃ s ∈ ss, V.str y ∈ s.vals.drop 1 := by
  have : ∀ (ss : List Stm) (L : List Str), y ∈ ss.foldl (fun L s => growL L (s.vals.drop 1)) L ↔ y ∈ L ∨ ∃ s ∈ ss, V.str y ∈ s.vals.drop 1 := fun ss => by
    induction ss with
    | nil => intro L; simp
    | cons s ss ih =>
      intro L
      rw [List.foldl_cons, ih, mem_growL]
      constructor
      · rintro ((h | h) | ⟨t, h1, h2⟩)
        · exact .inl h
        · exact .inr ⟨s, List.mem_cons_self, h⟩
        · exact .inr ⟨t, List.mem_cons_of_mem _ h1, h2⟩
      · rintro (h | ⟨t, h1, h2⟩)
        · exact .inl (.inl h)
        · rcases List.mem_cons.mp h1 with rfl | h1
          · exact .inl (.inr h2)
          · exact .inr ⟨t, h1, h2⟩
  have h := this ss []
  simpa [namesL] using h
theorem tail3 (s : Stm) : (s.vals.drop 1).length ≤ 3 := by
  cases s with
  | pl l => cases l <;> (show List.length (List.drop 1 _) ≤ 3; simp [toldV, Stm.vals])
  | _ => exact Nat.zero_le _
theorem canon_get {T : Ka.Tree} {i d : Nat} {z : Str} (h1 : (T.ldeps 0)[i]? = some d) (h2 : (T.flat.map Stm.txt)[i]? = some z) : (canon T)[i]? = some (spc (2 * d) ++ z) := by
  unfold canon
  rw [List.getElem?_map, List.getElem?_zip_eq_some (z := (d, z)) |>.mpr ⟨h1, h2⟩]; rfl
theorem canon_len (T : Ka.Tree) : (canon T).length = T.len := by
  unfold canon
  rw [List.length_map, List.length_zip, Kc.ldeps_length, List.length_map, flat_len, Nat.min_self]
/-- the canonical rows: the lines with spaces ahead -/
theorem canon_spd {T : Ka.Tree} (h5 : T.high ≤ 5) (hz : ∀ z ∈ T.flat.map Stm.txt, z.length ≤ 20) : ∀ i, i ≤ T.len → ∃ m, m ≤ 30 * i ∧ Spd ((T.flat.map Stm.txt).take i) ((canon T).take i) m := by
  intro i
  induction i with
  | zero => intro _; exact ⟨0, Nat.zero_le _, .nil⟩
  | succ i ih =>
    intro hi
    obtain ⟨m, hm, hs⟩ := ih (by omega)
    have zl : (T.flat.map Stm.txt).length = T.len := by rw [List.length_map, flat_len]
    have dl := Kc.ldeps_length T 0
    have e1 : (T.ldeps 0)[i]? = some (T.ldeps 0)[i] := List.getElem?_eq_getElem (by omega)
    have e2 : (T.flat.map Stm.txt)[i]? = some (T.flat.map Stm.txt)[i] := List.getElem?_eq_getElem (by omega)
    have d5 := ldeps_le T 0 _ (List.mem_of_getElem? e1)
    have z20 := hz _ (List.mem_of_getElem? e2)
    refine ⟨m + 2 * (T.ldeps 0)[i] + (T.flat.map Stm.txt)[i].length, by omega, ?_⟩
    rw [take_snoc e2, take_snoc (canon_get e1 e2)]
    exact .line hs (by omega)
end Kp
end
section
set_option Elab.async false
set_option linter.all false
set_option maxRecDepth 100000
set_option maxHeartbeats 4000000
namespace Kp
open PySem L2

open Ka Kd_ Kc
section
theorem dr_ok : ∀ o ∈ drL, 10 ∉ (rowO o).cps.toList ∧ (rowO o).length ≤ 20 ∧ Solid (rowO o) := by
  intro o ho
  simp only [drL, List.mem_cons, List.not_mem_nil, or_false] at ho
  have sd : ∀ (z : Str) (c : Nat) (r : List Nat), z.cps.toList = c :: r → c ≠ 32 → Solid z := fun z c r h n => ⟨c, r, h, n⟩
  rcases ho with rfl | rfl | rfl | rfl | rfl | rfl | rfl | rfl | rfl | rfl <;> exact ⟨by decide +kernel, by decide +kernel, sd _ _ _ rfl (by decide)⟩
theorem dr_okA : ∀ s, some s ∈ drL → Stm.okA s := by
  intro s hs
  simp only [drL, List.mem_cons, Option.some.injEq, List.not_mem_nil, or_false, reduceCtorEq] at hs
  rcases hs with rfl | rfl | rfl | rfl | rfl | rfl | rfl | rfl | rfl <;> exact okB_ok (by decide +kernel)
theorem dr_says {os : List (Option Stm)} (h : ∀ o ∈ os, o ∈ drL) : SaysA (os.map rowO) os := by
  refine ⟨List.length_map _, fun i z hz hn => ?_, fun i z s hz hs => ?_⟩
  · rw [List.getElem?_map, hn] at hz
    cases hz
    show stmN ("?" : Str) = true
    decide +kernel
  · rw [List.getElem?_map, hs] at hz
    cases hz
    exact ⟨rfl, dr_okA s (h _ (List.mem_of_getElem? hs))⟩
/-- few names -/
theorem dr_few {ss : List Stm} (h : ∀ s ∈ ss, some s ∈ drL) : (namesL ss).length ≤ 6 := by
  have sub : ∀ y ∈ namesL ss, y ∈ (["x", "y", "z", "a"] : List Str) := fun y hy => by
    obtain ⟨s, h1, h2⟩ := (mem_namesL ss).mp hy
    have hs := h s h1
    simp only [drL, List.mem_cons, Option.some.injEq, List.not_mem_nil, or_false, reduceCtorEq] at hs
    have e1 : ch 120 = ("x" : Str) := by decide +kernel
    have e2 : ch 121 = ("y" : Str) := by decide +kernel
    have e3 : ch 122 = ("z" : Str) := by decide +kernel
    have e4 : ch 97 = ("a" : Str) := by decide +kernel
    rcases hs with rfl | rfl | rfl | rfl | rfl | rfl | rfl | rfl | rfl <;> simp [Stm.vals, toldV, e1, e2, e3, e4] at h2 ⊢ <;> first | (rcases h2 with rfl | rfl | rfl <;> simp) | (subst h2; simp)
  have n := nodup_le (m := (["x", "y", "z", "a"] : List Str)) (few_names ss fun s hs => dr_okA s (h s hs)).1 sub
  have : (["x", "y", "z", "a"] : List Str).length = 4 := rfl
  omega
theorem dr_out {os : List (Option Stm)} {T : Ka.Tree} (h : ∀ o ∈ os, o ∈ drL) (l : os.length ≤ 80) (e : outL os = .inr T) : outA os = (if 5 < T.high then .inl (none, 6) else .inr T) := by
  have et := outL_told e
  have hs : ∀ s ∈ T.flat, some s ∈ drL := fun s hs => h _ (by rw [et]; exact List.mem_map_of_mem hs)
  have n6 := dr_few hs
  have l80 : T.flat.length ≤ 80 := by rw [et, List.length_map] at l; exact l
  unfold outA
  rw [e]
  by_cases h5 : 5 < T.high
  · rw [if_pos h5]
    have : limOf T.flat.length (fin_ T).depths (namesL T.flat).length = some 6 := by
      unfold limOf
      rw [if_neg (by omega), if_pos]
      rw [List.any_eq_true]
      apply Classical.byContradiction
      intro hn
      have := high_of (T := T) fun x hx => Nat.le_of_not_lt fun hlt => hn ⟨x, hx, decide_eq_true hlt⟩
      omega
    show (match limOf T.flat.length (fin_ T).depths (namesL T.flat).length with
      | some r => (.inl (none, r) : (Option Nat × Nat) ⊕ Ka.Tree)
      | none => .inr T) = _
    rw [this]
  · rw [if_neg h5]
    have : limOf T.flat.length (fin_ T).depths (namesL T.flat).length = none := by
      unfold limOf
      rw [if_neg (by omega), if_neg, if_neg (by omega)]
      rw [List.any_eq_true]
      rintro ⟨x, hx, hlt⟩
      have := dep5 T (by omega) x hx
      have := of_decide_eq_true hlt
      omega
    show (match limOf T.flat.length (fin_ T).depths (namesL T.flat).length with
      | some r => (.inl (none, r) : (Option Nat × Nat) ⊕ Ka.Tree)
      | none => .inr T) = _
    rw [this]
variable {P : Program} {w : World} {K : PySem.W.Frag} {mg : Str → Option Value} {base : Heap}
def kinds0 : List V := [.str "{", .str "}", .str "if ? {", .str "} else {", .str "while ? {", .str "}", .str "x = [y, z]", .str "a = 5", .str "print x", .str "?"]
theorem kinds_dr : kinds0 = (drL.map rowO).map V.str := by decide +kernel
def SayR (H : Hp) (v : V) : (Nat × Nat) ⊕ Ka.Tree → Prop
  | .inr _ => v = .non
  | .inl (k, r) => ∃ t, v = .ref t ∧ H t = some (.tup [.int (k : Nat), .str (reasonS r)])
theorem sayP_of {PT : Addr} {H : Hp} {Q : VK} {o : (Nat × Nat) ⊕ Ka.Tree} (h : ∀ v H', Same H H' → SayR H' v o → Q v H') : sayP PT H Q o := by
  cases o with
  | inr T => exact fun H' s => h _ H' s rfl
  | inl p => exact fun t H' s ht => h _ H' s ⟨t, rfl, ht⟩
def DueR (H : Hp) (v : V) : (Option Nat × Nat) ⊕ Ka.Tree → Prop
  | .inr _ => v = .non
  | .inl (k, r) => ∃ t, v = .ref t ∧ H t = some (.tup [opV k, .str (reasonS r)])
theorem DueR.but {PT : Addr} {H H' : Hp} {v : V} {o : (Option Nat × Nat) ⊕ Ka.Tree} (h : DueR H v o) (t : GxR.TabG H PT) (b : But [PT] H H') : DueR H' v o := by
  cases o with
  | inr T => exact h
  | inl p =>
    obtain ⟨a, e, ha⟩ := h
    obtain ⟨ps, hp, _⟩ := t
    exact ⟨a, e, b _ _ ha (by simp only [List.mem_singleton]; exact ne_of ha hp (by intro z; cases z))⟩
theorem DueR.kt {H H' : Hp} {v : V} {o : (Option Nat × Nat) ⊕ Ka.Tree} (h : DueR H v o) (k : ∀ a xs, H a = some (.tup xs) → H' a = some (.tup xs)) : DueR H' v o := by
  cases o with
  | inr T => exact h
  | inl p =>
    obtain ⟨a, e, ha⟩ := h
    exact ⟨a, e, k _ _ ha⟩
theorem toldP_of {PT : Addr} {H : Hp} {Q : VK} {o : (Option Nat × Nat) ⊕ Ka.Tree} (h : ∀ v H', But [PT] H H' → GxR.TabG H' PT → DueR H' v o → Q v H') : toldP PT H Q o := by
  cases o with
  | inr T => exact fun H' b t => h _ H' b t rfl
  | inl p => exact fun t H' b tb ht => h _ H' b tb ⟨t, rfl, ht⟩
theorem DueR.eq {K : PySem.W.Frag} {H : Hp} {v w : V} {o : (Option Nat × Nat) ⊕ Ka.Tree} (h : DueR H v o) (g : DueR H w o) : Eq2 K H 3 v w := by
  cases o with
  | inr T => rw [show v = .non from h, show w = .non from g]; exact .scal rfl
  | inl p =>
    obtain ⟨k, r⟩ := p
    obtain ⟨a, rfl, ha⟩ := h
    obtain ⟨b, rfl, hb⟩ := g
    exact Eq2.flat (SqT.of ha) (SqT.of hb) (by show 2 ≤ 1000; decide) fun x hx => by
      rcases List.mem_cons.mp hx with rfl | hx
      · cases k <;> rfl
      · rw [List.mem_singleton.mp hx]; rfl
def spLaw (K : PySem.W.Frag) (PT : Addr) : Sp := fun vs H Q _ => ∃ (a : Addr) (ns : List Int), vs = [.ref a] ∧ SqL K H a (ns.map V.int) ∧ ns.length ≤ 63 ∧ GxR.TabG H PT ∧ ∀ H', Q (.bl true) H'
theorem scN_law : FnScope ["script", "pool", "turn", "kinds", "lines", "k", "due"] ["script"] (defScope s_law) := ⟨rfl, rfl, rfl, by decide +kernel, rfl, by decide +kernel, by decide +kernel⟩
theorem ok_law {PT f : Addr} {fd : FuncData} (T : Tx K w mg) (F : Fun K "law" "law" s_law f fd) (G_L_told : FnOk P w K mg base CX0 6 T.f_L_told T.d_L_told ["text"] (spToldA K PT)) (G_toldL : FnOk P w K mg base CX0 6 T.f_L_told T.d_L_told ["text"] spToldL) : FnOk P w K mg base CX0 15 f fd ["script"] (spLaw K PT) := by
  have G_L_pool := ok_pool (P := P) (base := base) T
  have G_L_limits := ok_lmt T (ok_toldV G_L_told G_toldL)
  have G_L_same := ok_same (P := P) (base := base) T 4
  have G_L_take := ok_take (P := P) (base := base) T
  have G_L_spaced := ok_spaced (P := P) (base := base) T
  have G_L_due := ok_due (P := P) (base := base) (PT := PT) T
  have G_L_deepest := ok_deep (P := P) (base := base) T
  refine F.ok scN_law (fun vs H Q E h => ?_) (fun cdv A outer s H vs Q E hr h => ?_)
  · obtain ⟨a, ns, rfl, _⟩ := h
    rfl
  · obtain ⟨a, ns, rfl, hS, hl, hP, q⟩ := h
    have hr1 := hr.mono (by decide : 1 ≤ 14)
    have hr2 := hr.mono (by decide : 2 ≤ 14)
    have hr3 := hr.mono (by decide : 3 ≤ 14)
    have hr5 := hr.mono (by decide : 5 ≤ 14)
    have hr6 := hr.mono (by decide : 6 ≤ 14)
    have hr7 := hr.mono (by decide : 7 ≤ 14)
    have hu := hu_of hr
    refine ⟨_, (pss_cons (ps_set (i := 1) scN_law.nd rfl (.inr rfl) (pe_call G_L_pool hr1 (by rfl) T.L_pool.g T.L_pool.F.kp T.L_pool.b .nil pass0 (pa_cons (pv 0) pa_nil)))
        (Evl.pss_cut (ps_if (PW.pt (pw_and (pt_cmpR op_eq (pe_call G_L_take hr2 (by rfl) T.L_take.g T.L_take.F.kp T.L_take.b .nil pass0 (pa_cons (pv 1) (pa_cons pe_int pa_nil))) pe_int (nomark _)) (pw_and1 (pt_not (pt_val (pe_call G_L_limits hr7 (by rfl) T.L_limits.g T.L_limits.F.kp T.L_limits.b .nil pass0 (pa_cons (pv 1) pa_nil))))))) (pss_one (ps_ret pe_bl)) pss_nil)
        (pss_cons (ps_for PassesOwn.never rfl (pi_range1 rfl T.B.range (pa_cons pe_int pa_nil)) (pg_name (i := 2) scN_law.nd rfl (.inl rfl)) (pss_cons (ps_set (i := 3) scN_law.nd rfl (.inr rfl) (pe_tup (pa_cons pe_str (pa_cons pe_str (pa_cons pe_str (pa_cons pe_str (pa_cons pe_str (pa_cons pe_str (pa_cons pe_str (pa_cons pe_str (pa_cons pe_str (pa_cons pe_str pa_nil))))))))))))
        (pss_cons (ps_setLc (i := 4) (own := [("k", 5)]) (g := gName 5) (tt := tYes) rfl scN_law.nd rfl rfl (sw_true rfl rfl rfl (by decide +kernel)) (pi_range1 rfl T.B.range (pa_cons (pe_call G_L_take hr2 (by rfl) T.L_take.g T.L_take.F.kp T.L_take.b .nil pass0 (pa_cons (pv 1) (pa_cons pe_int pa_nil))) pa_nil)) (blkOk_by (own := [("k", 5)]) (N := ["script", "pool", "turn", "kinds", "lines", "k", "due"]) (sc := defScope s_law) (by decide +kernel)) (fun _ _ _ _ _ => (pg_name (i := 5) scN_law.nd rfl (.inl rfl))) (fun _ _ _ _ _ => pts_nil) (fun _ _ _ _ _ => (pe_ix (show IxR _ (rIxT K) from ix_tup) (pv 3) (pe_call G_L_take hr2 (by rfl) T.L_take.g T.L_take.F.kp T.L_take.b .nil pass0 (pa_cons (pv 1) (pa_cons (pe_op op_add pe_int (pe_callTy call_int1 (by rfl) T.B.int (by decide +kernel) (pa_cons (pe_cmpR op_eq (pe_call G_L_take hr2 (by rfl) T.L_take.g T.L_take.F.kp T.L_take.b .nil pass0 (pa_cons (pv 1) (pa_cons pe_int pa_nil))) pe_int (nomark _)) pa_nil))) pa_nil))) (fun _ _ => rfl))))
        (pss_cons (ps_set (i := 6) scN_law.nd rfl (.inl rfl) (pe_call G_L_due hr1 (by rfl) T.L_due.g T.L_due.F.kp T.L_due.b .nil pass0 (pa_cons (pv 4) pa_nil)))
        (Evl.pss_cut (ps_if (PW.pt (pw_and (pt_cmpR op_isN (pv 6) pe_non (nomark _)) (pw_and1 (pt_cmpR op_gt (pe_call G_L_deepest hr1 (by rfl) T.L_deepest.g T.L_deepest.F.kp T.L_deepest.b .nil pass0 (pa_cons (pv 4) pa_nil)) pe_int (nomark _))))) (pss_one (ps_set (i := 6) scN_law.nd rfl (.inl rfl) (pe_tup (pa_cons pe_non (pa_cons pe_str pa_nil))))) pss_nil)
        (pss_one (ps_if (pt_not (pt_val (pe_call G_L_same hr5 (by rfl) T.L_same.g T.L_same.F.kp T.L_same.b .nil pass0 (pa_cons (pe_call G_L_told hr6 (by rfl) T.L_told.g T.L_told.F.kp T.L_told.b .nil pass0 (pa_cons (pe_call G_L_spaced hr3 (by rfl) T.L_spaced.g T.L_spaced.F.kp T.L_spaced.b .nil pass0 (pa_cons (pv 1) (pa_cons (pv 4) pa_nil))) pa_nil)) (pa_cons (pv 6) pa_nil))))) (pss_one (ps_ret pe_bl)) pss_nil)))))))
        (pss_one (ps_ret pe_bl))))), ?_⟩
    -- pool
    refine ⟨_, rfl, a, ns, rfl, hS, hl, fun p C H1 s1 fp fC pool => ?_⟩
    have t1 : GxR.TabG H1 PT := tab_but hP (But.same s1 []) (by simp)
    have npt : ∀ {H : Hp} {b : Addr} {o : HO}, GxR.TabG H PT → H b = some o → (∀ ps, o ≠ .tbl ps) → PT ≠ b := fun {H b o} h e n z => by
      obtain ⟨ps, q, _⟩ := h
      rw [z, e] at q; exact n ps (Option.some.inj q)
    have pp : ∀ {H : Hp}, Pool H p C → (∃ xs, H p = some (.lst xs)) ∧ ∃ xs, H C = some (.lst xs) := fun {H} h => by obtain ⟨ns, i, c, z, h1, h2, _⟩ := h; exact ⟨⟨_, h1⟩, _, h2⟩
    have tabp : ∀ {H H2 : Hp}, Pool H p C → GxR.TabG H PT → But [p] H H2 → GxR.TabG H2 PT := fun {H H2} po ta b => tab_but ta b (by
      obtain ⟨⟨_, h⟩, _⟩ := pp po
      simp only [List.mem_singleton]; exact npt ta h (fun ps z => by cases z))
    refine ⟨fun σ' H' => σ' = [some (.ref a), some (.ref p), none, none, none, none, none] ∧ Pool H' p C ∧ GxR.TabG H' PT, ?_, ?_⟩
    · refine ⟨_, rfl, p, C, 4, rfl, pool, by decide, by decide, (fun z => nomatch z), fun d H2 b2 P2 d0 d1 => ⟨rfl, _, rfl, ?_⟩⟩
      have t2 := tabp pool t1 b2
      by_cases h3 : d = 3
      · rw [h3, decide_eq_true rfl]
        refine iteT (B := True) ?_
        refine ⟨_, rfl, p, C, rfl, P2, t2, fun H3 b3 P3 t3 => ⟨_, rfl, iteF (A := True) ⟨rfl, P3, t3⟩⟩⟩
      · rw [decide_eq_false (fun z => h3 (V.int.inj z))]
        exact iteF (A := True) (iteF (A := True) ⟨rfl, P2, t2⟩)
    rintro σ' H2 ⟨rfl, P2, t2⟩
    clear pool t1 s1 fp fC
    refine ⟨3, rfl, by decide, by decide, ?_⟩
    refine for_range (lo := 0) (n := 3) (fun i σ' H' => ∃ v2 v3 v4 v5 v6, σ' = [some (.ref a), some (.ref p), v2, v3, v4, v5, v6] ∧ Pool H' p C ∧ GxR.TabG H' PT) ⟨_, _, _, _, _, rfl, P2, t2⟩ ?_ ?_
    · rintro i σ' H3 hi ⟨v2, v3, v4, v5, v6, rfl, P3, t3⟩
      clear P2 t2
      refine ⟨by show 10 ≤ sizeLine; decide, fun KT hKT => ?_⟩
      have s4 := same_new hKT (.tup kinds0)
      have eK : (upd H3 KT (.tup kinds0)) KT = some (.tup kinds0) := upd_same
      have t4 := tab_but t3 (But.same s4 []) (by simp)
      have P4 := P3.but (But.same s4 []) (by simp) (by simp)
      refine ⟨_, rfl, p, C, 15, rfl, P4, by decide, by decide, (fun z => nomatch z), fun n5 H5 b5 P5 n0 n1 => ?_⟩
      have t5 := tabp P4 t4 b5
      have eK5 := b5 _ _ eK (by
        simp only [List.mem_singleton]
        obtain ⟨⟨_, h⟩, _⟩ := pp P3
        exact new_ne_of hKT h)
      obtain ⟨n, rfl⟩ : ∃ m : Nat, n5 = m := ⟨n5.toNat, by omega⟩
      refine ⟨_, rfl, by omega, by omega, fun D hD => ?_⟩
      clear eK t4 P4 s4 b5 P3 t3
      refine lc_range (lo := 0) (n := n) (fun i H' => But [p] H5 H' ∧ Pool H' p C ∧ ∃ os : List (Option Stm), H' D = some (.lst ((os.map rowO).map V.str)) ∧ (∀ o ∈ os, o ∈ drL) ∧ os.length = i) ⟨But.same (same_new hD _) _, P5.but (But.same (same_new hD _) []) (by simp) (by simp), [], upd_same, by simp, rfl⟩ ?_ ?_
      · rintro k H6 hk ⟨b6, P6, os, hos, dr, ol⟩
        have nDp : D ≠ p := by obtain ⟨⟨_, h⟩, _⟩ := pp P5; exact new_ne_of hD h
        have nDC : D ≠ C := by obtain ⟨_, _, h⟩ := pp P5; exact new_ne_of hD h
        refine ⟨rfl, _, rfl, _, rfl, _, rfl, p, C, 9, rfl, P6, by decide, by decide, (fun z => nomatch z), fun d H7 b7 P7 d0 d1 => ⟨rfl, .inr ⟨_, rfl, _, _, rfl, rfl, ?_⟩⟩⟩
        have m1 : (9 : Int) ≤ 9 + (if decide (V.int d = V.int 0) = true then (1 : Int) else 0) := by split <;> omega
        have m2 : 9 + (if decide (V.int d = V.int 0) = true then (1 : Int) else 0) ≤ 10 := by split <;> omega
        obtain ⟨mm, em⟩ : ∃ mm : Int, mm = 9 + (if decide (V.int d = V.int 0) = true then (1 : Int) else 0) := ⟨_, rfl⟩
        rw [← em] at m1 m2
        refine ⟨p, C, mm, by rw [em]; rfl, P7, by omega, by omega, (fun z => nomatch z), fun j5 H8 b8 P8 j0 j1 => ?_⟩
        obtain ⟨j, rfl⟩ : ∃ m : Nat, j5 = m := ⟨j5.toNat, by omega⟩
        have hj : j < drL.length := by show j < 10; omega
        have ej : kinds0[j]? = some (.str (rowO drL[j])) := by rw [kinds_dr, List.getElem?_map, List.getElem?_map, List.getElem?_eq_getElem hj]; rfl
        have mj : drL[j] ∈ drL := List.getElem_mem hj
        generalize drL[j] = o at ej mj
        have b58 := (b6.trans b7).trans b8
        have hos8 := b8 _ _ (b7 _ _ hos (by simpa using nDp)) (by simpa using nDp)
        have nKp : KT ≠ p := by obtain ⟨⟨_, h⟩, _⟩ := pp P5; exact ne_of eK5 h (by intro z; cases z)
        refine ⟨KT, _, _, _, rfl, rfl, SqT.of (b58 _ _ eK5 (by simpa using nKp)), atI_nat ej, _, hos8, by rw [List.length_map, List.length_map]; exact small1000 (by omega), ?_⟩
        have bD : But [D] H8 (upd H8 D (.lst ((os.map rowO).map V.str ++ [.str (rowO o)]))) := But.upd (by simp) _
        refine ⟨fun c u hc hn => bD _ _ (b58 c u hc hn) (by simpa using ne_of_none hc hD), P8.but bD (by simpa using nDC.symm) (by simpa using nDp.symm), os ++ [o], by rw [upd_same, List.map_append, List.map_append]; rfl, fun y hy => ?_, by rw [List.length_append, ol]; rfl⟩
        rcases List.mem_append.mp hy with hy | hy
        · exact dr y hy
        · rw [List.mem_singleton.mp hy]; exact mj
      rintro H6 ⟨b6, P6, os, hos, dr, ol⟩
      have t6 := tabp P5 t5 b6
      have nDp : D ≠ p := by obtain ⟨⟨_, h⟩, _⟩ := pp P5; exact new_ne_of hD h
      have o14 : os.length ≤ 14 := by omega
      clear hD eK5 hKT b6 P5 t5
      -- due
      refine ⟨_, rfl, D, os, rfl, hos, dr, by omega, ?_⟩
      refine sayP_of fun v7 H7 s7 r7 => ?_
      refine ⟨fun σ' H' => ∃ dv, σ' = [some (.ref a), some (.ref p), some (.int (0 + (i : Int))), some (.ref KT), some (.ref D), v5, some dv] ∧ Same H6 H' ∧ DueR H' dv (outA os), ?_, ?_⟩
      · cases hO : outL os with
        | inl e =>
          obtain ⟨k, r⟩ := e
          rw [hO] at r7
          obtain ⟨tt, rfl, ht⟩ := r7
          refine ⟨_, rfl, rfl, _, rfl, iteF (A := True) (iteF (A := True) ?_)⟩
          refine ⟨_, rfl, s7, ?_⟩
          unfold outA
          rw [hO]
          exact ⟨tt, rfl, ht⟩
        | inr Tr =>
          rw [hO] at r7
          obtain rfl : v7 = .non := r7
          refine ⟨_, rfl, rfl, _, rfl, iteT (B := True) ?_⟩
          have et := outL_told hO
          have rows : os.map rowO = Tr.flat.map Stm.txt := by rw [et, List.map_map]; rfl
          refine ⟨_, rfl, D, Tr, rfl, by rw [← rows]; exact s7 _ _ hos, fun s hs => dr _ (by rw [et]; exact List.mem_map_of_mem hs), by rw [et, List.length_map] at o14; omega, fun H8 s8 => ?_⟩
          refine ⟨_, _, rfl, rfl, _, rfl, ?_⟩
          have eo := dr_out dr (by omega) hO
          by_cases h5 : 5 < Tr.high
          · rw [decide_eq_true (by omega)]
            rw [if_pos h5] at eo
            refine iteT (B := True) ?_
            refine ⟨by show 2 ≤ sizeLine; decide, fun tt ht => ?_⟩
            refine ⟨_, rfl, (s7.trans s8).trans (same_new ht _), ?_⟩
            rw [eo]
            exact ⟨tt, rfl, upd_same⟩
          · rw [decide_eq_false (by omega)]
            rw [if_neg h5] at eo
            refine iteF (A := True) ?_
            refine ⟨_, rfl, s7.trans s8, ?_⟩
            rw [eo]
            rfl
      clear s7 r7
      rintro σ' H7 ⟨dv, rfl, s7, r7⟩
      have P7 := P6.but (But.same s7 []) (by simp) (by simp)
      have t7 := tab_but t6 (But.same s7 []) (by simp)
      have hos7 := s7 _ _ hos
      have rl : (os.map rowO).length = os.length := List.length_map _
      have row : ∀ z ∈ os.map rowO, 10 ∉ z.cps.toList ∧ z.length ≤ 20 ∧ Solid z := fun z hz => by
        obtain ⟨o, ho, rfl⟩ := List.mem_map.mp hz
        exact dr_ok o (dr o ho)
      refine ⟨_, rfl, _, rfl, p, C, D, os.map rowO, rfl, P7, hos7, nDp, by omega, fun z hz => by have := (row z hz).2.1; omega, fun ws m H8 b8 P8 spd wl ml => ?_⟩
      have t8 := tabp P7 t7 b8
      have jl : (Txt.join ("\n" : Str) ws).length ≤ 4000 := by
        rw [TL.join_eq]
        have h := StrLaws.join_length_le ("\n" : Str) ws
        have z1 : (("\n" : Str)).length = 1 := by decide +kernel
        rw [z1, spd.sum] at h
        omega
      refine ⟨os, ws, rfl, t8, by omega, spd.rows fun z hz => ⟨(row z hz).1, by have := (row z hz).2.1; omega⟩, jl, by rw [spd.clean fun z hz => (row z hz).2.2]; exact dr_says dr, by omega, ?_⟩
      refine toldP_of fun v9 H9 b9 t9 r9 => ?_
      have r8 : DueR H8 dv (outA os) := r7.kt fun a xs ha => b8 _ _ ha (by
        obtain ⟨⟨_, h⟩, _⟩ := pp P7
        simp only [List.mem_singleton]; exact ne_of ha h (by intro z; cases z))
      refine ⟨_, rfl, v9, dv, 3, rfl, rfl, r9.eq (r8.but t8 b9), fun H10 s10 => ⟨_, rfl, iteF (A := True) ?_⟩⟩
      have P9 : Pool H9 p C := by
        obtain ⟨⟨_, h1⟩, _, h2⟩ := pp P8
        exact P8.but b9 (by simpa using (npt t8 h2 (fun ps z => by cases z)).symm) (by simpa using (npt t8 h1 (fun ps z => by cases z)).symm)
      exact ⟨_, _, _, _, _, rfl, P9.but (But.same s10 []) (by simp) (by simp), tab_but t9 (But.same s10 []) (by simp)⟩
    · rintro σ' H3 ⟨v2, v3, v4, v5, v6, rfl, P3, t3⟩
      exact q H3
end
end Kp
end
section
set_option Elab.async false
set_option linter.all false
set_option maxRecDepth 100000
set_option maxHeartbeats 4000000
namespace Kp
open PySem PySem.Spec PyProof.Rows L2 Ka
theorem no_SL {K : PySem.W.Frag} {w : World} {h : Heap} (e : He.SaysX fa fn ts tf ex w h K) : ∀ z : Str, z ∉ (["{", "if ? {", "} else {", "while ? {", "}"] : List Str) → PySem.W.nsIn K (He.ga K "SCOPE_LINES") z = some none := fun z hz => by
  have t : He.SaysT fa fn ts w K := e.t
  have q : ts.map (fun t => He.dicW K (t.1 K)) = ts.map (fun t => some (He.keysIn w.params t.2)) := congrArg (fun z : He.AlT => z.2) t
  have q0 : He.dicW K (He.ga K "SCOPE_LINES") = some (He.keysIn w.params ["{", "if ? {", "} else {", "while ? {", "}"]) := by
    have := congrArg (fun l => l[0]?) q
    exact Option.some.inj this
  exact no_key q0 hz
theorem num_code {K : PySem.W.Frag} {w : World} {mg : Str → Option Value} (T : Tx K w mg) (hf : T.f_is_number = He.fAd K ("is_number", none)) : T.d_is_number.code = .ref (He.codeOf K ("is_number", none)) := by
  obtain ⟨oc, od, kV, doc, pm, an, cdv, ct, osl, efd, lk, hc⟩ := T.is_number.F.ex
  obtain ⟨c, ec⟩ := He.codeIn_ref hc
  have e : T.d_is_number.code = .ref c := by rw [efd]; exact ec
  rw [hf] at lk
  rw [e, He.codeOf_eq lk e]
/-- the law as it stands behind the top -/
theorem law_at (vars : ∀ {P : Program} {w : World} {K : PySem.W.Frag} {mg : Str → Option Value} {base : Heap} (T : Tx K w mg), FnOk P w K mg base CX0 1 T.f_variables_of T.d_variables_of ["statements"] (spVars K))
    {l : PySem.W.OpenLaw} {K : PySem.W.Frag} {w : World} {h : Heap} {mg : Str → Option Value} {f : Addr} (X : K.In h) (G : h.Ns mainGlobals mg) (e0 : SaysY fa fn ts tf ex fcs w h K) (hl : l.prog = PySem.Challenge.pw_scopefree_k02_what_does_not_fit) (hf : mg "law" = some (.ref f)) : LamX.LawAtS l w K CX0 15 63 "script" mg f h := by
  have e := e0.x
  have c : He.SaysD fa fn K := e.t.d
  obtain ⟨fd, F⟩ := c.def_ 22 (d := ⟨("law", none), "law", "law", defArgs s_law, defBody s_law, defScope s_law, [], []⟩) rfl
  have F : FunD K "law" "law" (defArgs s_law) (defBody s_law) (defScope s_law) [] [] (He.ga K "law") fd := F
  have gl := He.glo_ok X G (c.fact 38 (f := .glo "law") rfl)
  have ef : f = He.ga K "law" := by rw [hf] at gl; injection gl with z; injection z
  subst ef
  have F' := fun_of F
  have b := FunD.bindsA (ps := ["script"]) F (fun _ _ _ _ _ _ us hl => match us, hl with | [_], _ => rfl)
  let T := txOf X G e0
  have hcd : T.d_is_number.code = .ref (He.codeOf K ("is_number", none)) := num_code T rfl
  have mem : (("is_number", none) : He.Defn) ∈ tf := List.mem_singleton.mpr rfl
  refine ⟨fd, [He.cT K ("is_number", none)], spLaw K (He.cT K ("is_number", none)).2, ?_, ?_, ?_, ?_, ?_, ?_⟩
  · intro p hp; rw [List.mem_singleton.mp hp]; exact e.empty _ mem
  · intro p hp; rw [List.mem_singleton.mp hp]; exact e.out _ mem
  · intro p hp; rw [List.mem_singleton.mp hp]; exact PySem.W.codeHd_of_K X (e.hd _ mem)
  · exact fun s v => b s [v] rfl
  · intro H a ns hn _ hT hS
    exact ⟨a, ns, rfl, hS, hn, ⟨#[], hT _ (List.mem_singleton.mpr rfl), by first | trivial | exact .nil | decide⟩, fun _ => rfl⟩
  · intro base _ _ hTB
    have TB := hTB _ (List.mem_singleton.mpr rfl)
    have TB' : GxR.TabB base mg (He.codeOf K ("is_number", none)) (He.cT K ("is_number", none)).2 := ⟨TB.code, TB.bm, TB.gP⟩
    let A := ok_progA hl T (ok_stmA T (no_SL e) TB' hcd) (ok_stmN T (no_SL e) TB' hcd); exact ok_law T F' (ok_toldA T A) (ok_toldL T (ok_progL T))
end Kp
end
section
set_option Elab.async false
set_option linter.all false
set_option maxRecDepth 100000
set_option maxHeartbeats 0
open PySem PySem.W PySem.Calls PyProof.Rows
theorem Kp.holds_of (vars : ∀ {P : Program} {w : World} {K : PySem.W.Frag} {mg : PySem.Str → Option Value} {base : Heap} (T : Kp.Tx K w mg), L2.FnOk P w K mg base L2.CX0 1 T.f_variables_of T.d_variables_of ["statements"] (Kp.spVars K)) : PySem.Challenge.rw_scopefree_k02_what_does_not_fit.Holds := by
  w_on; o_law
  refine HandSHeadRun.head_any (r := OpenLaw.row PySem.Challenge.rw_scopefree_k02_what_does_not_fit) (q := view (OpenLaw.row PySem.Challenge.rw_scopefree_k02_what_does_not_fit).prog [42]) (H := Kp.hk) (ob := Kp.ob) (M := 4000) (loose := Kp.names) (d := HandSHeadRun.topDef (OpenLaw.row PySem.Challenge.rw_scopefree_k02_what_does_not_fit).prog 42) (kwd := []) Kp.ob_eq
    (by kernel_rfl) (fun s => by kernel_rfl) Kp.run (by kernel_rfl) (by kernel_rfl) (by kernel_rfl) (by rfl) (by first | assumption | decide +kernel) (by decide +kernel) ⟨rfl, rfl, rfl, rfl, rfl, by decide +kernel⟩ ?hw ?hc
  case hw => w_witness2
  case hc =>
    refine LamX.walk_ofTsE (l := PySem.Challenge.rw_scopefree_k02_what_does_not_fit) (n := 63) (k := 15) (x := "script") (CX := fun _ => L2.CX0) rfl (by decide) (by kernel_rfl) ⟨rfl, by decide, by decide⟩ ?F (fun _ _ _ _ _ z => z)
    intro w mg f h Y G top0
    obtain ⟨K, X, e⟩ := Y
    have top1 : mg ("law" : PySem.Str) = some (.ref f) := by
      have en : (HandSHeadRun.topDef (OpenLaw.row PySem.Challenge.rw_scopefree_k02_what_does_not_fit).prog 42).name = ("law" : PySem.Str) := by kernel_rfl
      rw [← en]
      exact top0
    exact ⟨K, X, Kp.law_at vars X G e rfl top1⟩
end
section
theorem PySem.Challenge.cw_scopefree_k02_what_does_not_fit_holds : PySem.Challenge.rw_scopefree_k02_what_does_not_fit.Holds := by
  exact Kp.holds_of fun T => Kp.ok_vars T
end
