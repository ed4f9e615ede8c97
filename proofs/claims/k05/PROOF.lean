import PyProof.Rows.All
import Wide.All
import OpenK.AllK
import Wide.FinOn
import PyProof.ReprRoads
import HandS.More
import HandS.IsInst
import HandS.Zip
import HandS.RaiseMore
import KE.BitLaws
import HandS.ForMost
import HandS.Wide
import HandS.WideBits
import HandS.NoneIn
import HandS.Flow
import PySem.Challenge.RW_wordsalike_k05_whole_equations_of_operat
set_option Elab.async false
set_option linter.all false
set_option maxRecDepth 100000
set_option maxHeartbeats 4000000
/-! promises of defs that are called where no repr is under way; repr of data -/
namespace Glay
open PySem PySem.Spec PyProof.Rows L2

/-- the promise of a def, for calls around which no repr goes on -/
structure GOk (P : Program) (w : World) (K : PySem.W.Frag) (mg : Str → Option Value) (base : Heap) (k : Nat) (f : Addr) (fd : FuncData) (ps : List Str) (sp : Sp) : Prop where
  many : ∀ {vs H Q E}, sp vs H Q E → vs.length = ps.length
  goes : ∀ {A : Around} {outer s H args us vs Q E}, Room k A → A.guards = some [] → Env0 P w K mg base A outer s H → BindsTo s fd args (ps.zip us) → Vals vs us → sp vs H Q E →
    codeAny (model P w) A (.call (.ref f) args) (CR CX0 outer P w H s Q E) s

section
variable {P : Program} {w : World} {K : PySem.W.Frag} {mg : Str → Option Value} {base : Heap} {k : Nat} {f : Addr} {fd : FuncData} {N ps : List Str} {sp : Sp}
theorem GOk.of (F : FnOk P w K mg base CX0 k f fd ps sp) : GOk P w K mg base k f fd ps sp :=
  ⟨fun h => F.len _ _ _ _ h, fun hr _ e b r h => F.run _ _ _ _ _ _ _ _ _ hr e b r h⟩
theorem GOk.up {j : Nat} (F : GOk P w K mg base j f fd ps sp) (h : j ≤ k) : GOk P w K mg base k f fd ps sp :=
  ⟨F.many, fun hr g => F.goes (hr.mono h) g⟩

/-- a def of the text keeps its promise: its body may ask for a repr -/
theorem okG {x qual : Str} {st : Stmt} (F : Fun K x qual st f fd) (S : FnScope N ps (defScope st)) (many : ∀ {vs H Q E}, sp vs H Q E → vs.length = ps.length)
    (body : ∀ (cdv : Value) (A : Around) (outer : List Env) (s : Shared) (H : Hp) (vs : List V) (Q : VK) (E : XK), A.guards = some [] → Room k (A.deeper (envOfC qual (defScope st) s.heap.objs.size f cdv)) → sp vs H Q E →
      ∃ t, PSs (cxOf CX0 P w K mg base N qual (defScope st) f cdv A outer s H E).nox (defBody st) t ∧ t { nx := fun _ H' => Q .non H', rt := Q } (start N vs) H) :
    GOk P w K mg base (k + 1) f fd ps sp := by
  obtain ⟨oc, od, kV, doc, pm, an, cdv, ct, osl, rfl, look, isCode⟩ := F.ex
  refine ⟨many, ?_⟩
  intro A outer s H args us vs Q E room quiet e0 bound rel want
  have inK : K.In s.heap := e0.mod.kin.keeps fun b o e => (e0.bs b o e).1
  have noLid : s.heap.NoLimit := e0.mod.nolimit.keeps fun b o e => (e0.bs b o e).1
  have places : ∀ y ∈ ps.zip us, (defScope st).names.lookup y.1 = some .local ∨ ((defScope st).names.lookup y.1 = some .cell ∧ ((cellsFrom (s.heap.objs.size + 1) (defScope st).names []).lookup y.1).isSome = true) := by
    rintro ⟨n, v⟩ hy
    cases S.par n (List.of_mem_zip hy).1 with
    | inl q => exact .inl q
    | inr q => exact .inr ⟨q, PySem.W.cellsFrom_some _ _ _ (.inl q)⟩
  refine codeAny_call_function room.depth (inK _ _ look) rfl S.co S.gen rfl (PySem.W.codeRec_of inK isCode) (bound _ _ _ _ ?_)
  refine wpAny_newFunctionEnv_cells S.kind places ?_
  intro env he s1 x
  subst he
  refine ⟨noLid.keeps x.toInCall.keep, codeAny_func ?_⟩
  obtain ⟨t, runs, reads⟩ := body cdv A outer s H vs Q E quiet (room.deeper _) want
  have I := inv_start (CX := CX0) (cd := cdv) (f := f) (E := E) (qual := qual) S room.hd e0 (many want) rel x
  have back : ∀ {σ' : L2.St} {H' : Hp} {v : V} {u : Value} {s' : Shared}, Inv (cxOf CX0 P w K mg base N qual (defScope st) f cdv A outer s H E) [] σ' H' s' → RelV v u → Q v H' → CE outer P w H s Q u s' := by
    intro σ' H' v u s' J rv q
    exact ⟨v, H', J.os, J.bare, J.base, J.hok, rv, q⟩
  refine wpAny_mono (runs.nox.run [] s1 (start N vs) H _ I reads) ?_ fun _ _ h => h
  intro fl s' hs
  match fl, hs with
  | .ret u, ⟨v, σ', H', J, rv, q⟩ => exact back J rv q
  | .next, ⟨σ', H', J, q⟩ => exact back (v := .non) (u := .none) J rfl q
  | .brk, ⟨_, _, _, q⟩ => exact q.elim
  | .cont, ⟨_, _, _, q⟩ => exact q.elim
end

section
variable {X : Cx} {k : Nat} {f : Addr} {fd : FuncData} {ps : List Str} {sp : Sp} {dvs : List V} {ds : List Value} {x : Str} {p pos : Pos} {e : Expr} {es : List Expr} {t : TA}
/-- f(e, ..) of such a def -/
theorem pe_callG (F : GOk X.prog X.w X.K X.mg X.base k f fd ps sp) (hr : Room k X.A) (hq : X.A.guards = some []) (hg : Gl X x) (hm : X.mg x = some (.ref f)) (hk : PySem.W.keepIn X.K (.ref f) = true)
    (hb : Binds X.K fd ps ds) (hd : Vals dvs ds) (ha : PA X (e :: es) t) (hdb : (x == ("__debug__" : Str)) = false := by decide)
    (he : starEach (e :: es) X.env = (false, eval e X.env) :: starEach es X.env := by rfl) (hpl : (backTo pos (starEach es X.env)).any (·.1) = false := by rfl) :
    PE X (.Call (.Name x p) (e :: es) [] pos) (tCall sp dvs E0 t) := by
  constructor
  intro pins s σ H Q I h
  refine wpAny_Call_Name_kw (ld_glob I hg hm ?_ hdb)
  refine PySem.W.callWith_K (h₀ := X.base) I.ok.mod.kin hk (thn (ha.run pos pins s σ H _ I h) ?_) he hpl
  rintro us s1 ⟨vs, H1, I1, r, q⟩
  refine ⟨I1.kIn, ?_⟩
  have r2 := r.append hd
  have hl : (us ++ ds).length = ps.length := r2.length.symm.trans (F.many q)
  refine wpAny_call (codeAny_mono (F.goes hr hq I1.env0 (hb s1 us I1.kIn hl) r2 q) ?_)
  intro fin s' hf
  match fin, hf with
  | .error _, hf => exact hf.elim
  | .ok (.ret u), hf => exact I1.after hf
end

section
variable {X : Cx}
/-- repr of data that is reached by a reference -/
def rRepr (K : PySem.W.Frag) : List V → Hp → VK → Prop := fun xs H Q => ∃ a d, xs = [V.ref a] ∧ Dp K H (.ref a) d ∧ d.showable = true ∧ d.hasDict = false ∧ d.depth ≤ 90 ∧ d.shown.length ≤ sizeLine ∧ Q (.str d.shown) H
theorem call_reprG (hq : X.A.guards = some []) (hu : X.A.units + 100 < cLine) : CallR X (.builtin "repr") (rRepr X.K) := by
  intro pins s σ H xs us Q I r h
  obtain ⟨a, d, rfl, hd, sh, nd, dd, sz, q⟩ := h
  obtain ⟨u, rfl, ru⟩ := vals1 r
  obtain ⟨as, rd⟩ := Dp.reads I d _ u hd ru
  cases ru
  refine repr_of_reads' rd sh (fun z => by rw [nd] at z; cases z) hq (by omega) (fun _ _ e => e) (fun h' u tk keep => ?_) sz
  exact ⟨.str _, H, I.kept keep, ⟨_, rfl⟩, q⟩
end

/-! ### the end of a law's row -/
section
variable {P : Program} {w : World} {K : PySem.W.Frag}
theorem goesLaw {mg mb : Str → Option Value} {k : Nat} {fa a : Addr} {fd : FuncData} {x : Str} {sp : Sp} {z : Shared} {vs : List Value} {ns : List Int}
    (inK : K.In z.heap) (names : z.heap.Ns mainGlobals mg) (blt : z.heap.Ns builtinsNs mb) (boot : ∀ x : Str, x ≠ "__name__" → mb x = bootBuiltins x) (noLid : z.heap.NoLimit) (gens : z.gens = #[])
    (script : z.heap.get? a = some { cls := .type "list", data := .seq vs.toArray }) (whole : IntsAre vs ns) (few : ns.length ≤ sizeLine) (room : Room k callerA)
    (F : ∀ base : Heap, K.In base → base.Ns mainGlobals mg → GOk P w K mg base k fa fd [x] sp) (bound : ∀ (s : Shared) (u : Value), BindsTo s fd ⟨[u], []⟩ [(x, u)])
    (want : ∀ H : Hp, Only H → SqL K H a (ns.map V.int) → sp [.ref a] H (fun v _ => v = .bl true) fun _ _ _ => False) :
    codeAny (model P w) callerA (.call (.ref fa) ⟨[.ref a], []⟩) (fun r s' => r = .ok (.ret (.bool true)) ∧ OldK z.heap s'.heap ∧ s'.os = z.os ∧ AllBare s'.gens) z := by
  have rel := vals_ints whole
  have go : ∀ H : Hp, Only H → SqL K H a (ns.map V.int) → HOk P w H z.heap → (∀ b, H b ≠ none → b = a) → (H a ≠ none → K.lookup a = none) →
      codeAny (model P w) callerA (.call (.ref fa) ⟨[.ref a], []⟩) (fun r s' => r = .ok (.ret (.bool true)) ∧ OldK z.heap s'.heap ∧ s'.os = z.os ∧ AllBare s'.gens) z := by
    intro H only seq hok alone out
    have untracked : ∀ {b : Addr}, b ≠ a → H b = none := fun {b} n => by
      cases q : H b with
      | none => rfl
      | some u => exact (n (alone b (by rw [q]; exact Option.some_ne_none u))).elim
    have keptNs : ∀ {b : Addr} {m : Str → Option Value}, z.heap.Ns b m → (hidT z.heap H).Ns b m := by
      rintro b m ⟨o, es, ep, e, d, r⟩
      refine ⟨o, es, ep, hidT_get e (untracked ?_), d, r⟩
      rintro rfl
      have same := script.symm.trans e
      cases same
      cases d
    have keptK : K.In (hidT z.heap H) := fun b o e => by
      refine hidT_get (inK b o e) ?_
      by_cases hb : b = a
      · subst hb
        cases q : H b with
        | none => rfl
        | some u =>
          have no := out (by rw [q]; exact Option.some_ne_none u)
          rw [e] at no
          cases no
      · exact untracked hb
    have md : Mod K mg (hidT z.heap H) := ⟨keptK, keptNs names, ⟨mb, keptNs blt, boot⟩, let ⟨mc, h1, h2⟩ := noLid; ⟨mc, keptNs h1, h2⟩⟩
    have e0 : Env0 P w K mg (hidT z.heap H) callerA [] z H :=
      ⟨rfl, md, fun _ _ e => of_hidT e, Nat.le_of_eq (hidT_size _ _), trivial, fun _ hb => (List.not_mem_nil hb).elim, hok, .of_eq gens⟩
    refine codeAny_mono ((F _ keptK (keptNs names)).goes (args := ⟨[.ref a], []⟩) (us := [.ref a]) (vs := [.ref a]) room rfl e0 (bound z (.ref a)) (.cons rfl .nil) (want H only seq)) ?_
    intro r s' h
    match r, h with
    | .error _, h => exact h.elim
    | .ok (.ret u), ⟨v, H', os, bare, un, hok', rv, q⟩ =>
      have q' : v = .bl true := q
      subst q'
      have ru : u = Value.bool true := rv
      subst ru
      refine ⟨rfl, OldK.of_keep fun b o e => ?_, os, bare⟩
      cases hb : H b with
      | none => exact un.keep b o e hb List.not_mem_nil List.not_mem_nil
      | some u =>
        rcases only b with z0 | ⟨ob, xs, z0⟩
        · rw [hb] at z0
          cases z0
        · have e1 := (hok b _ z0).1
          have e2 := (hok' b _ (un.frzs b ob _ z0)).1
          rw [e] at e1
          cases e1
          exact e2
  cases hk : K.lookup a with
  | some o =>
    have e := inK a o hk
    rw [script] at e
    cases e
    have sz : vs.toArray.size ≤ sizeLine := by
      rw [List.size_toArray, whole.length]
      exact few
    refine go (fun _ => none) (fun _ => .inl rfl) (.inr ⟨_, vs.toArray, _, hk, rfl, rfl, rfl, sz, by simpa using rel⟩) (fun b u q => nomatch q) (fun b q => (q rfl).elim) fun q => (q rfl).elim
  | none =>
    let H : Hp := fun b => if b = a then some (.frz { cls := .type "list", data := .seq vs.toArray } (.lst (ns.map V.int))) else none
    have at1 : H a = some (.frz { cls := .type "list", data := .seq vs.toArray } (.lst (ns.map V.int))) := if_pos rfl
    have off : ∀ {b : Addr}, b ≠ a → H b = none := fun n => if_neg n
    refine go H (fun b => ?_) (.inl (.inr ⟨_, at1⟩)) (fun b u q => ?_) (fun b q => ?_) fun _ => hk
    · by_cases hb : b = a
      · subst hb
        exact .inr ⟨_, _, at1⟩
      · exact .inl (off hb)
    · by_cases hb : b = a
      · subst hb
        have q2 := at1.symm.trans q
        cases q2
        refine ⟨script, ?_, vs, _, rel, script⟩
        rw [List.length_map]
        exact few
      · have q2 := (off hb).symm.trans q
        cases q2
    · by_cases hb : b = a
      · exact hb
      · exact (q (off hb)).elim
end
/-- the goal that k_head leaves, from such a promise of the law -/
theorem walkG {l : PySem.W.OpenLaw} {n k : Nat} {q : Program} {loose : List Str} {XP : (Str → Option Value) → Heap → Prop} {YP : World → Heap → Prop} {d : DefRec} {K : Params → PySem.W.Frag} {sp : World → Sp} {x : Str}
    (hn : l.most = some n) (hn2 : n ≤ sizeLine) (hdf : d.params.defaults = []) (room : Room k callerA) (hY : ∀ (w : World) (h : Heap), YP w h → (K w.params).In h)
    (F : ∀ (w : World) (mg : Str → Option Value) (fa : Addr) (h : Heap), (K w.params).In h → h.Ns mainGlobals mg → mg d.name = some (.ref fa) →
      ∃ fd : FuncData, (∀ (s : Shared) (u : Value), BindsTo s fd ⟨[u], []⟩ [(x, u)]) ∧ ∀ base : Heap, (K w.params).In base → base.Ns mainGlobals mg → GOk l.prog w (K w.params) mg base k fa fd [x] (sp w))
    (want : ∀ (w : World) (H : Hp) (a : Addr) (ns : List Int), ns.length ≤ n → Only H → SqL (K w.params) H a (ns.map V.int) → sp w [.ref a] H (fun v _ => v = .bl true) fun _ _ _ => False) :
    PySem.W.WalkO q loose XP YP l.row.toRowW d [] (fun f vs => PySem.call f vs) := by
  refine Att.attach_call hn hdf ?_
  intro w s₀ s₁ mg mb fa o pm cd doc a vs ns G Y ho hd hcd hmg hobj hints hlen hg
  have inK := hY w _ Y
  obtain ⟨fd, hb, hF⟩ := F w mg fa _ inK G.T.g hmg
  exact goesLaw inK G.T.g G.T.b G.T.builtins G.T.nolimit hg hobj hints (Nat.le_trans hlen hn2) room hF hb fun H hO hS => want w H a ns hlen hO hS
end Glay

set_option Elab.async false
set_option linter.all false
set_option maxRecDepth 100000
set_option maxHeartbeats 4000000
/-! ### what a def of the text is; calls; readings step by step -/
namespace Lw
open PySem PySem.Spec PyProof.Rows L2 Glay
/-- a def of the top, called by its name -/
structure Df (K : PySem.W.Frag) (mg : Str → Option Value) (x : Str) (st : Stmt) (ps : List Str) (f : Addr) (fd : FuncData) : Prop where
  fn : Fun K x x st f fd
  place : mg x = some (.ref f)
  bs : Binds K fd ps []
section
variable {X : Cx} {k : Nat} {f : Addr} {fd : FuncData} {st : Stmt} {ps : List Str} {sp : Sp} {x : Str} {p pos : Pos} {e : Expr} {es : List Expr} {t : TA}
theorem callF (D : Df X.K X.mg x st ps f fd) (G : FnOk X.prog X.w X.K X.mg X.base CX0 k f fd ps sp) (hr : Room k X.A) (hg : Gl X x) (ha : PA X (e :: es) t)
    (hdb : (x == ("__debug__" : Str)) = false := by decide) (he : starEach (e :: es) X.env = (false, eval e X.env) :: starEach es X.env := by rfl) (hpl : (backTo pos (starEach es X.env)).any (·.1) = false := by rfl) :
    PE X (.Call (.Name x p) (e :: es) [] pos) (tCall sp [] E0 t) := pe_call G hr hg D.place D.fn.kp D.bs .nil pass0 ha hdb he hpl
theorem callG (D : Df X.K X.mg x st ps f fd) (G : GOk X.prog X.w X.K X.mg X.base k f fd ps sp) (hr : Room k X.A) (hq : X.A.guards = some []) (hg : Gl X x) (ha : PA X (e :: es) t)
    (hdb : (x == ("__debug__" : Str)) = false := by decide) (he : starEach (e :: es) X.env = (false, eval e X.env) :: starEach es X.env := by rfl) (hpl : (backTo pos (starEach es X.env)).any (·.1) = false := by rfl) :
    PE X (.Call (.Name x p) (e :: es) [] pos) (tCall sp [] E0 t) := pe_callG G hr hq hg D.place D.fn.kp D.bs .nil ha hdb he hpl
/-- len of a list or a tuple -/
def rLen (K : PySem.W.Frag) : List V → Hp → VK → Prop := fun xs H Q => ∃ p ys, xs = [.ref p] ∧ (SqL K H p ys ∨ SqT K H p ys) ∧ Q (.int ys.length) H
theorem len_seq : CallR X (.builtin "len") (rLen X.K) := call_len_seq
def rListOf (K : PySem.W.Frag) : List V → Hp → VK → Prop := fun xs H Q => ∃ p ys, xs = [.ref p] ∧ (SqL K H p ys ∨ SqT K H p ys) ∧ ∀ l, H l = none → Q (.ref l) (upd H l (.lst ys))
theorem list_of : CallR X (.type "list") (rListOf X.K) := call_list_of
def rTupOf (K : PySem.W.Frag) : List V → Hp → VK → Prop := fun xs H Q => ∃ p ys, xs = [.ref p] ∧ ((SqL K H p ys ∧ ∀ l, H l = none → Q (.ref l) (upd H l (.tup ys))) ∨ (SqT K H p ys ∧ Q (.ref p) H))
theorem tuple_of : CallR X (.type "tuple") (rTupOf X.K) := call_tuple_of
def rInt1 : List V → Hp → VK → Prop := fun xs H Q => (∃ i, xs = [.int i] ∧ Q (.int i) H) ∨ ∃ k, xs = [.bl k] ∧ Q (.int (if k then 1 else 0)) H
theorem int_1 : CallR X (.type "int") rInt1 := call_int1
def rAbs : List V → Hp → VK → Prop := fun xs H Q => ∃ i, xs = [.int i] ∧ Q (.int (if i < 0 then -i else i)) H
theorem abs_1 : CallR X (.builtin "abs") rAbs := call_abs
/-- powers of great numbers -/
def CPowW (i j : Int) : Prop := 0 ≤ j ∧ (Builtin.Int.intBits i : Int) * j ≤ 2 ^ 27
theorem op_powW : OpR X (binaryOp .Pow) (rI CPowW fun i j => .int (i ^ j.toNat)) := opI fun _ _ _ _ _ _ _ hc q => pow_int hc.1 hc.2 q
/-- a number and all ones of so many bits -/
def rAndM : R2 := fun x y H Q => ∃ (i : Int) (k : Nat), x = .int i ∧ y = .int (2 ^ k - 1) ∧ Q (.int (i % 2 ^ k)) H
theorem op_andM' : OpR X (binaryOp .BitAnd) rAndM := op_andM
/-- repr of a number -/
def rRepI : List V → Hp → VK → Prop := fun xs H Q => ∃ i : Int, xs = [.int i] ∧ i.natAbs.log2 < 1920 ∧ Q (.str (toString i)) H
/-- numbers below a power of two -/
def Bd (B : Nat) (n : Int) : Prop := n.natAbs < 2 ^ B
theorem Bd.mono {A B : Nat} {n : Int} (h : Bd A n) (l : A ≤ B) : Bd B n := Nat.lt_of_lt_of_le h (Nat.pow_le_pow_right (by decide) l)
theorem Bd.add {B : Nat} {i j : Int} (h : Bd B i) (h' : Bd B j) : Bd (B + 1) (i + j) := by
  unfold Bd at *
  rw [Nat.pow_succ]
  omega
theorem Bd.sub {B : Nat} {i j : Int} (h : Bd B i) (h' : Bd B j) : Bd (B + 1) (i - j) := by
  unfold Bd at *
  rw [Nat.pow_succ]
  omega
theorem Bd.neg {B : Nat} {i : Int} (h : Bd B i) : Bd B (-i) := by
  unfold Bd at *
  omega
theorem Bd.mul {A B : Nat} {i j : Int} (h : Bd A i) (h' : Bd B j) : Bd (A + B) (i * j) := wide_lt h h'
theorem Bd.of {B : Nat} {i : Int} (h0 : 0 ≤ i) (h : i < 2 ^ B) : Bd B i := by
  unfold Bd
  have : ((i.natAbs : Nat) : Int) = i := Int.natAbs_of_nonneg h0
  have q : ((i.natAbs : Nat) : Int) < ((2 ^ B : Nat) : Int) := by
    rw [this, Int.natCast_pow]
    exact h
  exact Int.ofNat_lt.mp q
theorem Bd.le {B : Nat} {i j : Int} (h : Bd B j) (h0 : 0 ≤ i) (h1 : i ≤ j) : Bd B i := wide_le h0 h1 h
theorem Bd.mulOk {A B : Nat} {i j : Int} (h : Bd A i) (h' : Bd B j) (l : 0 < A ∧ 0 < B ∧ A + B ≤ 1000000) : CMulW i j := wide_mul h h' l.1 l.2.1 l.2.2
theorem roomU {k : Nat} {A : Around} (r : Room k A) : A.units + 100 < cLine := by have := r.un; omega
end
/-- a new object at p -/
structure New (H : Hp) (p : Addr) (o : HO) (H' : Hp) : Prop where
  free : H p = none
  here : H' p = some o
  same : Same H H'
theorem same_upd {H : Hp} {p : Addr} {o : HO} (h : H p = none) : Same H (upd H p o) := fun b x e => by
  rw [upd_ne (ne_of_none e h)]
  exact e
theorem New.of {H : Hp} {p : Addr} {o : HO} (h : H p = none) : New H p o (upd H p o) := ⟨h, upd_same, same_upd h⟩
def kLst (Q : VK) : List V → Hp → Prop := fun xs H => xs.length ≤ sizeLine ∧ ∀ p, H p = none → Q (.ref p) (upd H p (.lst xs))
def kPar (i j : Nat) (D : Ends) (σ : L2.St) : List V → Hp → Prop := fun vs H => ∃ v w, vs = [v, w] ∧ D.nx ((σ.set i (some v)).set j (some w)) H
def kFor (g : TG) (tb : TS) (D : Ends) (σ0 : L2.St) (J : It) (H1 : Hp) : Prop := ∃ W : Nat → Nat → L2.St → Hp → Prop, (∃ m, W 0 m σ0 H1) ∧ ∀ i m σ H, W i m σ H →
  (J.stop i H ∧ D.nx σ H) ∨ (J.go i H ∧ ∃ N : L2.St → Hp → Prop, (∀ σ' H', N σ' H' → ∃ m', m' < m ∧ W (i + 1) m' σ' H') ∧ ∀ x H', J.yld i H x H' → g x σ H' fun σ2 H2 => tb { D with nx := N, ct := N, bk := D.nx } σ2 H2)
def kItl (K : PySem.W.Frag) (R : It → Hp → Prop) : VK := fun x H => ∃ a, x = .ref a ∧ (∃ xs, SqL K H a xs) ∧ R (Itl K a) H
def kItr (R : It → Hp → Prop) : List V → Hp → Prop := fun vs H => ∃ j : Int, vs = [.int j] ∧ -(2 ^ 62) ≤ j ∧ j < 2 ^ 62 ∧ R (Itr 0 j.toNat) H
def kTupl (Q : VK) : List V → Hp → Prop := fun xs H => xs.length ≤ sizeLine ∧ ∀ p, H p = none → Q (.ref p) (upd H p (.tup xs))
section
variable {σ : L2.St} {H : Hp} {Q : VK} {v x y : V} {i j : Int} {n : Nat} {ta tb te : TE} {D : Ends} {r : R2} {P : Bool → Prop}
theorem rd_var (h : σ[n]? = some (some v)) (q : Q v H) : tVar n σ H Q := ⟨v, h, q⟩
theorem rd_c (q : Q v H) : tC v σ H Q := q
theorem rd_op (q : ta σ H fun x H1 => tb σ H1 fun y H2 => r x y H2 Q) : tOp r ta tb σ H Q := q
theorem rd_un {r : V → Hp → VK → Prop} (q : ta σ H fun x H1 => r x H1 Q) : tUn r ta σ H Q := q
theorem rd_U {g : Int → Int} (q : Q (.int (g i)) H) : rU (fun i => .int (g i)) (.int i) H Q := ⟨i, rfl, q⟩
theorem rd_I0 {g : Int → Int → V} (q : Q (g i j) H) : rI0 g (.int i) (.int j) H Q := ⟨i, j, rfl, rfl, q⟩
theorem rd_I {C : Int → Int → Prop} {g : Int → Int → V} (c : C i j) (q : Q (g i j) H) : rI C g (.int i) (.int j) H Q := ⟨i, j, rfl, rfl, c, q⟩
theorem rd_call {sp : Sp} {dvs : List V} {E : XK} {t : TA} (q : t σ H fun vs H1 => sp (vs ++ dvs) H1 Q E) : tCall sp dvs E t σ H Q := q
theorem rd_cb {c : List V → Hp → VK → Prop} {t : TA} (q : t σ H fun vs H1 => c vs H1 Q) : tCB c t σ H Q := q
theorem rd_nil {Q : List V → Hp → Prop} (q : Q [] H) : tNil σ H Q := q
theorem rd_cons {tr : TA} {Q : List V → Hp → Prop} (q : ta σ H fun x H1 => tr σ H1 fun xs H2 => Q (x :: xs) H2) : tCons ta tr σ H Q := q
theorem rd_seq {t u : TS} (q : t { D with nx := u D } σ H) : tSeq t u D σ H := q
theorem rd_next (q : D.nx σ H) : tNext D σ H := q
theorem rd_asg {g : TG} (q : te σ H fun x H1 => g x σ H1 D.nx) : tAsg te g D σ H := q
theorem rd_par {i j : Nat} {t : TA} (q : t σ H (kPar i j D σ)) : tPar i j t D σ H := q
theorem rd_par2 {i j : Nat} (q : D.nx ((σ.set i (some v)).set j (some x)) H) : kPar i j D σ [v, x] H := ⟨v, x, rfl, q⟩
theorem rd_name {Q : L2.St → Hp → Prop} (q : Q (σ.set n (some v)) H) : gName n v σ H Q := q
theorem rd_ret (q : te σ H D.rt) : tRet te D σ H := q
theorem rd_ifs {c : TT} {t u : TS} (q : c σ H fun b H1 => if b = true then t D σ H1 else u D σ H1) : tIfS c t u D σ H := q
theorem rd_if {c : TT} (q : c σ H fun b H1 => if b = true then ta σ H1 Q else tb σ H1 Q) : tIf c ta tb σ H Q := q
theorem rd_test {Q : Bool → Hp → Prop} (q : te σ H fun x H1 => ∃ k, x = .bl k ∧ Q k H1) : tTest te σ H Q := q
theorem rd_B {Q : Bool → Hp → Prop} (q : te σ H fun x H1 => ∃ k, x = .bl k ∧ Q k H1) : tB te σ H Q := q
theorem rd_not {c : TT} {Q : Bool → Hp → Prop} (q : c σ H fun b H1 => Q (!b) H1) : tNot c σ H Q := q
theorem rd_and {c d : TT} {Q : Bool → Hp → Prop} (q : c σ H fun b H1 => if b = true then d σ H1 Q else Q false H1) : tAnd c d σ H Q := q
theorem rd_or {c d : TT} {Q : Bool → Hp → Prop} (q : c σ H fun b H1 => if b = true then Q true H1 else d σ H1 Q) : tOr c d σ H Q := q
theorem rd_andV (q : ta σ H fun x H1 => ∃ c, x = .bl c ∧ if c = true then tb σ H1 Q else Q (.bl false) H1) : tAndV ta tb σ H Q := q
theorem rd_orV (q : ta σ H fun x H1 => ∃ c, x = .bl c ∧ if c = true then Q (.bl true) H1 else tb σ H1 Q) : tOrV ta tb σ H Q := q
theorem rd_notV (q : ta σ H fun x H1 => ∃ c, x = .bl c ∧ Q (.bl (!c)) H1) : tNotV ta σ H Q := q
theorem rd_chain {r' : R2} {tc : TE} (q : ta σ H fun x H1 => tb σ H1 fun y H2 => r x y H2 fun z H3 => ∃ k, z = .bl k ∧ (if k = true then tc σ H3 fun w' H4 => r' y w' H4 Q else Q (.bl false) H3)) : tChain r r' ta tb tc σ H Q := q
theorem rd_k {b : Bool} (q : P b) : ∃ k, V.bl b = .bl k ∧ P k := ⟨b, rfl, q⟩
theorem rd_eq (s : scal x y = true) (q : Q (.bl (decide (x = y))) H) : rEq x y H Q := ⟨s, q⟩
theorem rd_ne (s : scal x y = true) (q : Q (.bl (!decide (x = y))) H) : rNe x y H Q := ⟨s, q⟩
theorem rd_dec {c A B : Prop} [Decidable c] (h1 : c → A) (h2 : ¬ c → B) : if decide c = true then A else B := by
  by_cases h : c
  · rw [decide_eq_true h, if_pos rfl]
    exact h1 h
  · rw [decide_eq_false h, if_neg (by decide)]
    exact h2 h
theorem rd_yes {c A B : Prop} [Decidable c] (h : c) (q : A) : if decide c = true then A else B := rd_dec (fun _ => q) fun n => (n h).elim
theorem rd_no {c A B : Prop} [Decidable c] (h : ¬ c) (q : B) : if decide c = true then A else B := rd_dec (fun y => (h y).elim) fun _ => q
theorem rd_yesN {c A B : Prop} [Decidable c] (h : ¬ c) (q : A) : if (!decide c) = true then A else B := by
  rw [decide_eq_false h]
  exact q
theorem rd_noN {c A B : Prop} [Decidable c] (h : c) (q : B) : if (!decide c) = true then A else B := by
  rw [decide_eq_true h]
  exact q
theorem rd_nt {A B : Prop} (q : B) : if (!true) = true then A else B := q
theorem rd_nf {A B : Prop} (q : A) : if (!false) = true then A else B := q
theorem rd_t {A B : Prop} (q : A) : if true = true then A else B := q
theorem rd_f {A B : Prop} (q : B) : if false = true then A else B := by
  rw [if_neg (by decide)]
  exact q
theorem rd_lst {t : TA} (q : t σ H (kLst Q)) : tLst t σ H Q := q
theorem rd_unl {K : PySem.W.Frag} {g : TGs} {a : Addr} {xs : List V} {Q : L2.St → Hp → Prop} (h : SqL K H a xs) (e : xs.length = n) (q : g xs σ H Q) : gUnl K n g (.ref a) σ H Q := ⟨a, xs, rfl, h, e, q⟩
theorem rd_andM {k : Nat} (e : j = 2 ^ k - 1) (q : Q (.int (i % 2 ^ k)) H) : rAndM (.int i) (.int j) H Q := ⟨i, k, rfl, by rw [e], q⟩
theorem rd_gcons {g : TG} {u : TGs} {xs : List V} {Q : L2.St → Hp → Prop} (q : g v σ H fun σ' H' => u xs σ' H' Q) : gCons g u (v :: xs) σ H Q := ⟨v, xs, rfl, q⟩
theorem rd_gnil {Q : L2.St → Hp → Prop} (q : Q σ H) : gNil [] σ H Q := ⟨rfl, q⟩
theorem rd_sub {t : TSet} {Q : L2.St → Hp → Prop} (q : ta σ H fun o H1 => tb σ H1 fun i H2 => t o i v H2 fun H3 => Q σ H3) : gSub ta tb t v σ H Q := q
theorem rd_set {p : Addr} {xs : List V} {m : Nat} {Q : Hp → Prop} (h : H p = some (.lst xs)) (e : ixN xs.length i = some m) (q : Q (upd H p (.lst (xs.set m v)))) : rSetL (.ref p) (.int i) v H Q := ⟨p, xs, i, m, rfl, rfl, h, e, q⟩
theorem rd_ixL {K : PySem.W.Frag} {p : Addr} {xs : List V} (h : SqL K H p xs) (e : atI xs i = some v) (q : Q v H) : rIxL K (.ref p) (.int i) H Q := ⟨p, xs, i, v, rfl, rfl, h, e, q⟩
theorem rd_len {K : PySem.W.Frag} {p : Addr} {xs : List V} (h : SqL K H p xs) (q : Q (.int (xs.length : Int)) H) : rLen K [.ref p] H Q := ⟨p, xs, rfl, .inl h, q⟩
theorem ix_in {m : Nat} (h0 : 0 ≤ i) (h1 : i < m) : ixN m i = some i.toNat := by
  unfold ixN
  rw [if_pos h0, if_pos h1]
theorem at_ints {ns : List Int} (h0 : 0 ≤ i) (h1 : i < ns.length) : ∃ z, ns[i.toNat]? = some z ∧ z ∈ ns ∧ atI (ns.map V.int) i = some (.int z) := by
  have hj : i.toNat < ns.length := by omega
  refine ⟨ns[i.toNat], List.getElem?_eq_getElem hj, List.getElem_mem hj, ?_⟩
  unfold atI
  rw [List.length_map, ix_in h0 h1]
  show (ns.map V.int)[i.toNat]? = _
  rw [List.getElem?_map, List.getElem?_eq_getElem hj]
  rfl
theorem rd_listL {K : PySem.W.Frag} {p : Addr} {xs : List V} (h : SqL K H p xs) (q : ∀ l H', New H l (.lst xs) H' → Q (.ref l) H') : rListOf K [.ref p] H Q := ⟨p, xs, rfl, .inl h, fun l n => q l _ (.of n)⟩
theorem rd_tupL {K : PySem.W.Frag} {p : Addr} {xs : List V} (h : SqL K H p xs) (q : ∀ l H', New H l (.tup xs) H' → Q (.ref l) H') : rTupOf K [.ref p] H Q := ⟨p, xs, rfl, .inl ⟨h, fun l n => q l _ (.of n)⟩⟩
theorem rd_intI (q : Q (.int i) H) : rInt1 [.int i] H Q := .inl ⟨i, rfl, q⟩
theorem rd_intB {b : Bool} (q : Q (.int (if b then 1 else 0)) H) : rInt1 [.bl b] H Q := .inr ⟨b, rfl, q⟩
theorem rd_abs (q : Q (.int (if i < 0 then -i else i)) H) : rAbs [.int i] H Q := ⟨i, rfl, q⟩
theorem rd_sl {c : V → Option Int → Option Int → Hp → VK → Prop} {tl th : TO} (q : te σ H fun x H1 => tl σ H1 fun l H2 => th σ H2 fun u H3 => c x l u H3 Q) : tSl c te tl th σ H Q := q
theorem rd_nopart {Q : Option Int → Hp → Prop} (q : Q none H) : tNoPart σ H Q := q
theorem rd_part {Q : Option Int → Hp → Prop} (q : te σ H fun x H1 => ∃ i, x = .int i ∧ Q (some i) H1) : tPart te σ H Q := q
theorem rd_pi {P : Int → Prop} (q : P i) : ∃ j, V.int i = .int j ∧ P j := ⟨i, rfl, q⟩
theorem rd_slL {K : PySem.W.Frag} {a : Addr} {xs : List V} {lo hi : Option Int} (h : SqL K H a xs) (q : ∀ p H', New H p (.lst (cutV xs lo hi)) H' → Q (.ref p) H') : rSlL K (.ref a) lo hi H Q := ⟨a, xs, rfl, h, fun p n => q p _ (.of n)⟩
theorem rd_cat {a b : Addr} {xs zs : List V} (h1 : H a = some (.lst xs)) (h2 : H b = some (.lst zs)) (s : xs.length + zs.length ≤ 1000) (q : ∀ p H', New H p (.lst (xs ++ zs)) H' → Q (.ref p) H') : rCat (.ref a) (.ref b) H Q :=
  ⟨a, b, xs, zs, rfl, rfl, h1, h2, Nat.le_of_lt (small1000 s), fun p n => q p _ (.of n)⟩
theorem rd_rep {a : Addr} {xs : List V} (h1 : H a = some (.lst xs)) (h0 : 0 ≤ i) (hi : i ≤ 1000) (s : xs.length * i.toNat ≤ 1000) (q : ∀ p H', New H p (.lst (List.replicate i.toNat xs).flatten) H' → Q (.ref p) H') : rRep (.ref a) (.int i) H Q :=
  ⟨a, i, xs, rfl, rfl, h1, by omega, by omega, Nat.le_of_lt (small1000 s), fun p n => q p _ (.of n)⟩
theorem rd_new {xs : List V} (s : xs.length ≤ 1000) (q : ∀ p H', New H p (.lst xs) H' → Q (.ref p) H') : kLst Q xs H := ⟨Nat.le_of_lt (small1000 s), fun p n => q p _ (.of n)⟩
theorem rd_newT {xs : List V} (s : xs.length ≤ 1000) (q : ∀ p H', New H p (.tup xs) H' → Q (.ref p) H') : kTupl Q xs H := ⟨Nat.le_of_lt (small1000 s), fun p n => q p _ (.of n)⟩
theorem rd_tup {t : TA} (q : t σ H (kTupl Q)) : tTup t σ H Q := q
theorem rd_for {wi : TI} {g : TG} {tb : TS} (q : wi σ H (kFor g tb D σ)) : tFor wi g tb D σ H := q
theorem rd_ilist {K : PySem.W.Frag} {R : It → Hp → Prop} (q : ta σ H (kItl K R)) : iList K ta σ H R := q
theorem rd_irng {t : TA} {R : It → Hp → Prop} (q : t σ H (kItr R)) : iRng1 t σ H R := q
theorem rd_forL {K : PySem.W.Frag} {a : Addr} {xs : List V} {g : TG} {tb : TS} (hs : SqL K H a xs) (Pv : Nat → L2.St → Hp → Prop) (h0 : Pv 0 σ H) (hl : ∀ i σ H, i ≤ xs.length → Pv i σ H → SqL K H a xs)
    (turn : ∀ i x σ H, xs[i]? = some x → Pv i σ H → g x σ H fun σ2 H2 => tb { D with nx := Pv (i + 1), ct := Pv (i + 1), bk := D.nx } σ2 H2) (hd : ∀ σ H, Pv xs.length σ H → D.nx σ H) :
    kItl K (kFor g tb D σ) (.ref a) H := ⟨a, rfl, ⟨xs, hs⟩, for_list (K := K) (a := a) (xs := xs) Pv h0 hl turn hd⟩
theorem rd_forR {m : Nat} {g : TG} {tb : TS} (hm : m ≤ 1000000) (Pv : Nat → L2.St → Hp → Prop) (h0 : Pv 0 σ H)
    (turn : ∀ i σ H, i < m → Pv i σ H → g (.int (0 + (i : Int))) σ H fun σ2 H2 => tb { D with nx := Pv (i + 1), ct := Pv (i + 1), bk := D.nx } σ2 H2) (hd : ∀ σ H, Pv m σ H → D.nx σ H) :
    kItr (kFor g tb D σ) [.int (m : Int)] H := ⟨(m : Int), rfl, by omega, by omega, by
      rw [Int.toNat_natCast]
      exact for_range (lo := 0) (n := m) Pv h0 turn hd⟩
end
/-! ### written dicts, isinstance, comprehensions with tests -/
section
variable {X : Cx}
/-- z in d, d a dict of the top with written texts as keys -/
def KHas (K : PySem.W.Frag) (w : World) (p : Addr) (z : Str) (b : Bool) : Prop := ∃ es n r, K.lookup p = some ⟨.type "dict", none, .dict es n, #[]⟩ ∧ PySem.W.KeysLit w.params es.toList ∧ (p == sysModules) = false ∧ PySem.W.nsIn K p z = some r ∧ r.isSome = b
def rInD (K : PySem.W.Frag) (w : World) : R2 := fun x y H Q => ∃ z p b, x = .str z ∧ y = .ref p ∧ KHas K w p z b ∧ Q (.bl b) H
theorem op_inD : OpR X (compareOp .In) (rInD X.K X.w) := by
  intro pins s σ H x y v u Q I rx ry h
  obtain ⟨z, p, b, rfl, rfl, ⟨es, n, r, hl, hk, lo, e, hb⟩, q⟩ := h
  obtain ⟨t, rfl⟩ := rx
  cases ry
  refine wpAny_in_of (strKind_is X.prog X.w z t) lo (PySem.W.mapOf_K I.kIn hl hk) ?_
  rw [PySem.W.find_K hl e, hb]
  exact ⟨.bl b, H, I.tok _, rfl, q⟩
end
section
variable {X : Cx} {K : PySem.W.Frag}
theorem zip_k {e1 e2 : Expr} {ta : TA} {p pos tpos : Pos} {elts : List Expr} {kk : Nat} (e : X.K = K) (hg : Gl X "zip") (hm : X.mg "zip" = none) (ha : PA X [e1, e2] ta)
    (hs : starEach [e1, e2] X.env = (false, eval e1 X.env) :: starEach [e2] X.env := by rfl) (hpl : (backTo pos (starEach [e2] X.env)).any (·.1) = false := by rfl) :
    PI X (.Tuple elts kk tpos) (.Call (.Name "zip" p) [e1, e2] [] pos) (RZ.iZipA K ta) := by subst e; exact RZ.pi_zipA hg hm ha hs hpl
theorem pgt_k {es : List Expr} {k : Nat} {t : TGs} {n : Nat} {pos : Pos} (e : X.K = K) (hc : X.calm = true) (h : PGs X es t)
    (hn : (assignEach es X.env).length = n := by rfl) (hst : (assignEach es X.env).findIdx? (·.1) = none := by rfl) : PG X (.Tuple es k pos) (gTup K n t) := by subst e; exact pg_tup hc h hn hst
theorem sorted_k (e : X.K = K) : CallR X (.builtin "sorted") (rSorted K) := by subst e; exact cr_sorted
theorem repr_i : CallR X (.builtin "repr") rRepI := SkE.call_repr_int
theorem isi_k (e : X.K = K) : CallR X (.builtin "isinstance") (rIsi K) := by subst e; exact call_isi
theorem len_k (e : X.K = K) : CallR X (.builtin "len") (rLen K) := by subst e; exact len_seq
theorem list_k (e : X.K = K) : CallR X (.type "list") (rListOf K) := by subst e; exact list_of
theorem tuple_k (e : X.K = K) : CallR X (.type "tuple") (rTupOf K) := by subst e; exact tuple_of
theorem ixl_k (e : X.K = K) : IxR X (rIxL K) := by subst e; exact ix_list
theorem ixt_k (e : X.K = K) : IxR X (rIxT K) := by subst e; exact ix_tup
theorem ins_k (e : X.K = K) : OpR X (compareOp .In) (rIn K false) := by subst e; exact op_in_seq
theorem sll_k (e : X.K = K) : SlR X (rSlL K) := by subst e; exact sl_list
theorem slt_k (e : X.K = K) : SlR X (rSlT K) := by subst e; exact sl_tup
theorem sum_k (hc : X.calm = true) (e : X.K = K) : CallR X (.builtin "sum") (rSum K) := by subst e; exact cr_sum hc
theorem eqd_k (e : X.K = K) (hu : X.A.units + 64 < cLine) : OpR X (compareOp .Eq) (rEqD K) := by subst e; exact op_eqD hu
theorem ned_k (e : X.K = K) (hu : X.A.units + 64 < cLine) : OpR X (compareOp .NotEq) (rNeD K) := by subst e; exact op_neD hu
theorem repr_k (e : X.K = K) (hq : X.A.guards = some []) (hu : X.A.units + 100 < cLine) : CallR X (.builtin "repr") (rRepr K) := by subst e; exact call_reprG hq hu
theorem inD_k {w : World} (e : X.K = K) (ew : X.w = w) : OpR X (compareOp .In) (rInD K w) := by subst e; subst ew; exact op_inD
theorem ixd_k {w : World} (e : X.K = K) (ew : X.w = w) : IxR X (rIxD K w) := by subst e; subst ew; exact ix_kdict
end
def rMx2 : List V → Hp → VK → Prop := fun xs H Q => ∃ i j, xs = [.int i, .int j] ∧ Q (.int (if j > i then j else i)) H
def rMn2 : List V → Hp → VK → Prop := fun xs H Q => ∃ i j, xs = [.int i, .int j] ∧ Q (.int (if j < i then j else i)) H
theorem max_2 {X : Cx} (hc : X.calm = true) : CallR X (.builtin "max") rMx2 := call_max2 hc
theorem min_2 {X : Cx} (hc : X.calm = true) : CallR X (.builtin "min") rMn2 := call_min2 hc
theorem at_head {α : Type} {x : α} {xs : List α} : atI (x :: xs) 0 = some x := atI_nat (j := 0) rfl
def kLc (g : TG) (tt : TT) (te : TE) (vs : List Nat) (σ : L2.St) (Q : VK) (J : It) (H1 : Hp) : Prop := ∀ D, H1 D = none → ∃ W : Nat → Nat → Hp → Prop, (∃ m, W 0 m (upd H1 D (.lst []))) ∧ ∀ i m H, W i m H →
  (J.stop i H ∧ Q (.ref D) H) ∨ (J.go i H ∧ ∃ Nx : Hp → Prop, (∀ H', Nx H' → ∃ m', m' < m ∧ W (i + 1) m' H') ∧ ∀ x H', J.yld i H x H' → g x (wipe σ vs) H' fun σ2 H2 => wipe σ2 vs = wipe σ vs ∧ tt σ2 H2 fun b H3 =>
    if b = true then te σ2 H3 fun y H4 => ∃ acc, H4 D = some (.lst acc) ∧ acc.length < sizeLine ∧ Nx (upd H4 D (.lst (acc ++ [y]))) else Nx H3)
def kZip (K : PySem.W.Frag) (R : It → Hp → Prop) : List V → Hp → Prop := fun vs H1 => ∃ a b xs ys, vs = [.ref a, .ref b] ∧ ((SqL K H1 a xs ∧ SqL K H1 b ys ∧ R (Itz K a b) H1) ∨ (SqT K H1 a xs ∧ SqT K H1 b ys ∧ R (RZ.ItzT K a b) H1))
def kItt (K : PySem.W.Frag) (R : It → Hp → Prop) : VK := fun x H => ∃ a, x = .ref a ∧ (∃ xs, SqT K H a xs) ∧ R (Itt K a) H
def rTupIx (K : PySem.W.Frag) : R2 := rIxT K
section
variable {σ : L2.St} {H : Hp} {Q : VK} {v x y : V} {i j : Int} {n : Nat} {ta tb te : TE} {D : Ends} {K : PySem.W.Frag}
theorem rd_lc {wi : TI} {g : TG} {tt : TT} {vs : List Nat} (q : wi σ H (kLc g tt te vs σ Q)) : tLc wi g tt te vs σ H Q := q
theorem rd_itup {R : It → Hp → Prop} (q : ta σ H (kItt K R)) : iTup K ta σ H R := q
/-- [e for x in xs], xs a local, what is made of each item told by f -/
theorem rd_lcF {α : Type} {K : PySem.W.Frag} {emb f : α → V} {zs : List α} {a : Addr} {g : TG} {vs : List Nat} (hs : SqL K H a (zs.map emb)) (hz : zs.length ≤ 1000)
    (turn : ∀ (z : α) (H1 : Hp) (R : VK), z ∈ zs → Same H H1 → (∀ H3, Same H1 H3 → R (f z) H3) → g (emb z) (wipe σ vs) H1 fun σ2 H2 => wipe σ2 vs = wipe σ vs ∧ te σ2 H2 R)
    (q : ∀ D H', New H D (.lst (zs.map f)) H' → Q (.ref D) H') : kItl K (kLc g tYes te vs σ Q) (.ref a) H := by
  refine ⟨a, rfl, ⟨_, hs⟩, fun D nD => ?_⟩
  have lz : (zs.map emb).length = zs.length := List.length_map ..
  refine lc_list (K := K) (a := a) (xs := zs.map emb) (fun i H1 => H1 D = some (.lst ((zs.take i).map f)) ∧ Same H H1) ⟨upd_same, same_upd nD⟩ (fun i H1 _ h => h.2.seq hs) (fun i x H1 hx h => ?_) (fun H1 h => ?_)
  · obtain ⟨hD, sm⟩ := h
    rw [List.getElem?_map] at hx
    cases hz2 : zs[i]? with
    | none =>
      rw [hz2] at hx
      cases hx
    | some z =>
      rw [hz2] at hx
      cases hx
      have hi : i < zs.length := (List.getElem?_eq_some_iff.mp hz2).1
      refine turn z H1 _ (List.mem_of_getElem? hz2) sm fun H3 s3 => ?_
      refine ⟨_, s3 _ _ hD, ?_, ?_, ?_⟩
      · rw [List.length_map, List.length_take]
        exact small1000 (by omega)
      · rw [upd_same, List.take_add_one, hz2, List.map_append]
        rfl
      · intro b o hb
        rw [upd_ne (ne_of_none hb nD)]
        exact s3 _ _ (sm _ _ hb)
  · obtain ⟨hD, sm⟩ := h
    rw [lz, List.take_length] at hD
    exact q D H1 ⟨nD, hD, sm⟩
/-- [e for x in range(m)], where what is made keeps an invariant of the caller's -/
theorem rd_lcR {m : Nat} {g : TG} {vs : List Nat} (I : Nat → Hp → Prop) (S : V → Prop) (hm : m ≤ 1000)
    (start : ∀ D H1, New H D (.lst []) H1 → I 0 H1) (keep : ∀ D i H1 xs, H D = none → I i H1 → H1 D ≠ none → I i (upd H1 D (.lst xs)))
    (turn : ∀ (D : Addr) (i : Nat) (H1 : Hp) (ys : List V) (R : VK), H D = none → i < m → I i H1 → H1 D = some (.lst ys) → (∀ y H3, S y → I (i + 1) H3 → H3 D = some (.lst ys) → R y H3) →
      g (.int (0 + (i : Int))) (wipe σ vs) H1 fun σ2 H2 => wipe σ2 vs = wipe σ vs ∧ te σ2 H2 R)
    (q : ∀ D H' ys, H D = none → H' D = some (.lst ys) → ys.length = m → (∀ y ∈ ys, S y) → I m H' → Q (.ref D) H') : kItr (kLc g tYes te vs σ Q) [.int (m : Int)] H := by
  refine ⟨(m : Int), rfl, by omega, by omega, fun D nD => ?_⟩
  rw [Int.toNat_natCast]
  refine lc_range (lo := 0) (n := m) (fun i H1 => I i H1 ∧ ∃ ys, H1 D = some (.lst ys) ∧ ys.length = i ∧ ∀ y ∈ ys, S y) ⟨start D _ (.of nD), [], upd_same, rfl, fun y h => nomatch h⟩ (fun i H1 hi h => ?_) (fun H1 h => ?_)
  · obtain ⟨hI, ys, hD, hl, hS⟩ := h
    refine turn D i H1 ys _ nD hi hI hD fun y H3 sy i3 d3 => ?_
    refine ⟨ys, d3, small1000 (by omega), keep D (i + 1) H3 _ nD i3 (by rw [d3]; exact Option.some_ne_none _), ys ++ [y], upd_same, ?_, ?_⟩
    · rw [List.length_append, hl]
      rfl
    · intro z hz
      rcases List.mem_append.mp hz with h | h
      · exact hS z h
      · rw [List.mem_singleton.mp h]
        exact sy
  · obtain ⟨hI, ys, hD, hl, hS⟩ := h
    exact q D H1 ys nD hD hl hS hI
theorem rd_tyes {Q : Bool → Hp → Prop} (q : Q true H) : tYes σ H Q := q
theorem rd_forT {a : Addr} {xs : List V} {g : TG} {tb : TS} (hs : SqT K H a xs) (Pv : Nat → L2.St → Hp → Prop) (h0 : Pv 0 σ H) (hl : ∀ i σ H, i ≤ xs.length → Pv i σ H → SqT K H a xs)
    (turn : ∀ i x σ H, xs[i]? = some x → Pv i σ H → g x σ H fun σ2 H2 => tb { D with nx := Pv (i + 1), ct := Pv (i + 1), bk := D.nx } σ2 H2) (hd : ∀ σ H, Pv xs.length σ H → D.nx σ H) :
    kItt K (kFor g tb D σ) (.ref a) H := ⟨a, rfl, ⟨xs, hs⟩, for_tup (K := K) (a := a) (xs := xs) Pv h0 hl turn hd⟩
/-- a comprehension over a tuple: J i acc says what holds when i items are taken and acc is made -/
theorem rd_lcT {a : Addr} {xs : List V} {g : TG} {tt : TT} {vs : List Nat} (few : xs.length ≤ 1000) (J : Nat → List V → Hp → Prop) (held : ∀ i acc H1, J i acc H1 → SqT K H1 a xs) (hs : SqT K H a xs)
    (start : ∀ D H1, New H D (.lst []) H1 → J 0 [] H1) (keep : ∀ D i acc H1 u, H D = none → J i acc H1 → J i acc (upd H1 D u))
    (turn : ∀ (D : Addr) (i : Nat) (x : V) (H1 : Hp) (acc : List V) (R : VK) (N : Hp → Prop), H D = none → xs[i]? = some x → J i acc H1 → H1 D = some (.lst acc) →
      (∀ y H3, J (i + 1) (acc ++ [y]) H3 → H3 D = some (.lst acc) → R y H3) → (∀ H3, J (i + 1) acc H3 → H3 D = some (.lst acc) → N H3) →
      g x (wipe σ vs) H1 fun σ2 H2 => wipe σ2 vs = wipe σ vs ∧ tt σ2 H2 fun b H3 => if b = true then te σ2 H3 R else N H3)
    (q : ∀ D H' acc, H D = none → H' D = some (.lst acc) → J xs.length acc H' → Q (.ref D) H') : kItt K (kLc g tt te vs σ Q) (.ref a) H := by
  refine ⟨a, rfl, ⟨xs, hs⟩, fun D nD => ?_⟩
  refine lc_tup (K := K) (a := a) (xs := xs) (fun i H1 => ∃ acc, H1 D = some (.lst acc) ∧ acc.length ≤ i ∧ J i acc H1) ⟨[], upd_same, Nat.le_refl _, start D _ (.of nD)⟩ (fun i H1 _ h => ?_) (fun i x H1 hx h => ?_) (fun H1 h => ?_)
  · obtain ⟨acc, _, _, hJ⟩ := h
    exact held i acc H1 hJ
  · obtain ⟨acc, hD, hl, hJ⟩ := h
    have hi : i < xs.length := (List.getElem?_eq_some_iff.mp hx).1
    refine turn D i x H1 acc _ _ nD hx hJ hD (fun y H3 hJ3 hD3 => ?_) (fun H3 hJ3 hD3 => ?_)
    · refine ⟨acc, hD3, small1000 (by omega), acc ++ [y], upd_same, ?_, keep D _ _ _ _ nD hJ3⟩
      rw [List.length_append]
      show acc.length + 1 ≤ i + 1
      omega
    · exact ⟨acc, hD3, by omega, hJ3⟩
  · obtain ⟨acc, hD, hl, hJ⟩ := h
    exact q D H1 acc nD hD hJ
/-- the same over a list -/
theorem rd_lcL {a : Addr} {xs : List V} {g : TG} {tt : TT} {vs : List Nat} (few : xs.length ≤ 1000) (J : Nat → List V → Hp → Prop) (held : ∀ i acc H1, J i acc H1 → SqL K H1 a xs) (hs : SqL K H a xs)
    (start : ∀ D H1, New H D (.lst []) H1 → J 0 [] H1) (keep : ∀ D i acc H1 u, H D = none → J i acc H1 → J i acc (upd H1 D u))
    (turn : ∀ (D : Addr) (i : Nat) (x : V) (H1 : Hp) (acc : List V) (R : VK) (N : Hp → Prop), H D = none → xs[i]? = some x → J i acc H1 → H1 D = some (.lst acc) →
      (∀ y H3, J (i + 1) (acc ++ [y]) H3 → H3 D = some (.lst acc) → R y H3) → (∀ H3, J (i + 1) acc H3 → H3 D = some (.lst acc) → N H3) →
      g x (wipe σ vs) H1 fun σ2 H2 => wipe σ2 vs = wipe σ vs ∧ tt σ2 H2 fun b H3 => if b = true then te σ2 H3 R else N H3)
    (q : ∀ D H' acc, H D = none → H' D = some (.lst acc) → J xs.length acc H' → Q (.ref D) H') : kItl K (kLc g tt te vs σ Q) (.ref a) H := by
  refine ⟨a, rfl, ⟨xs, hs⟩, fun D nD => ?_⟩
  refine lc_list (K := K) (a := a) (xs := xs) (fun i H1 => ∃ acc, H1 D = some (.lst acc) ∧ acc.length ≤ i ∧ J i acc H1) ⟨[], upd_same, Nat.le_refl _, start D _ (.of nD)⟩ (fun i H1 _ h => ?_) (fun i x H1 hx h => ?_) (fun H1 h => ?_)
  · obtain ⟨acc, _, _, hJ⟩ := h
    exact held i acc H1 hJ
  · obtain ⟨acc, hD, hl, hJ⟩ := h
    have hi : i < xs.length := (List.getElem?_eq_some_iff.mp hx).1
    refine turn D i x H1 acc _ _ nD hx hJ hD (fun y H3 hJ3 hD3 => ?_) (fun H3 hJ3 hD3 => ?_)
    · refine ⟨acc, hD3, small1000 (by omega), acc ++ [y], upd_same, ?_, keep D _ _ _ _ nD hJ3⟩
      rw [List.length_append]
      show acc.length + 1 ≤ i + 1
      omega
    · exact ⟨acc, hD3, by omega, hJ3⟩
  · obtain ⟨acc, hD, hl, hJ⟩ := h
    exact q D H1 acc nD hD hJ
/-- the same over range(m) -/
theorem rd_lcN {m : Nat} {g : TG} {tt : TT} {vs : List Nat} (few : m ≤ 1000) (J : Nat → List V → Hp → Prop)
    (start : ∀ D H1, New H D (.lst []) H1 → J 0 [] H1) (keep : ∀ D i acc H1 u, H D = none → J i acc H1 → J i acc (upd H1 D u))
    (turn : ∀ (D : Addr) (i : Nat) (H1 : Hp) (acc : List V) (R : VK) (N : Hp → Prop), H D = none → i < m → J i acc H1 → H1 D = some (.lst acc) →
      (∀ y H3, J (i + 1) (acc ++ [y]) H3 → H3 D = some (.lst acc) → R y H3) → (∀ H3, J (i + 1) acc H3 → H3 D = some (.lst acc) → N H3) →
      g (.int (0 + (i : Int))) (wipe σ vs) H1 fun σ2 H2 => wipe σ2 vs = wipe σ vs ∧ tt σ2 H2 fun b H3 => if b = true then te σ2 H3 R else N H3)
    (q : ∀ D H' acc, H D = none → H' D = some (.lst acc) → J m acc H' → Q (.ref D) H') : kItr (kLc g tt te vs σ Q) [.int (m : Int)] H := by
  refine ⟨(m : Int), rfl, by omega, by omega, fun D nD => ?_⟩
  rw [Int.toNat_natCast]
  refine lc_range (lo := 0) (n := m) (fun i H1 => ∃ acc, H1 D = some (.lst acc) ∧ acc.length ≤ i ∧ J i acc H1) ⟨[], upd_same, Nat.le_refl _, start D _ (.of nD)⟩ (fun i H1 hi h => ?_) (fun H1 h => ?_)
  · obtain ⟨acc, hD, hl, hJ⟩ := h
    refine turn D i H1 acc _ _ nD hi hJ hD (fun y H3 hJ3 hD3 => ?_) (fun H3 hJ3 hD3 => ?_)
    · refine ⟨acc, hD3, small1000 (by omega), acc ++ [y], upd_same, ?_, keep D _ _ _ _ nD hJ3⟩
      rw [List.length_append]
      show acc.length + 1 ≤ i + 1
      omega
    · exact ⟨acc, hD3, by omega, hJ3⟩
  · obtain ⟨acc, hD, hl, hJ⟩ := h
    exact q D H1 acc nD hD hJ
theorem rd_gtup {a : Addr} {xs : List V} {g : TGs} {Q : L2.St → Hp → Prop} (h : SqT K H a xs) (e : xs.length = n) (q : g xs σ H Q) : gTup K n g (.ref a) σ H Q := ⟨a, xs, rfl, h, e, q⟩
theorem rd_izip {t : TA} {R : It → Hp → Prop} (q : t σ H (kZip K R)) : RZ.iZipA K t σ H R := q
/-- a comprehension over zip of two tuples -/
theorem rd_lcZ {a b : Addr} {xs ys : List V} {g : TG} {tt : TT} {vs : List Nat} (hl : xs.length = ys.length) (few : xs.length ≤ 1000) (J : Nat → List V → Hp → Prop) (held : ∀ i acc H1, J i acc H1 → SqT K H1 a xs ∧ SqT K H1 b ys) (h1 : SqT K H a xs) (h2 : SqT K H b ys)
    (start : ∀ D H1, New H D (.lst []) H1 → J 0 [] H1) (keep : ∀ D i acc H1 u, H D = none → J i acc H1 → J i acc (upd H1 D u)) (keep2 : ∀ D i acc H1 u, H1 D = none → J i acc H1 → J i acc (upd H1 D u))
    (turn : ∀ (D : Addr) (i : Nat) (x y : V) (p : Addr) (H1 : Hp) (acc : List V) (R : VK) (N : Hp → Prop), H D = none → xs[i]? = some x → ys[i]? = some y → J i acc H1 → H1 D = some (.lst acc) → H1 p = some (.tup [x, y]) →
      (∀ z H3, J (i + 1) (acc ++ [z]) H3 → H3 D = some (.lst acc) → R z H3) → (∀ H3, J (i + 1) acc H3 → H3 D = some (.lst acc) → N H3) →
      g (.ref p) (wipe σ vs) H1 fun σ2 H2 => wipe σ2 vs = wipe σ vs ∧ tt σ2 H2 fun b H3 => if b = true then te σ2 H3 R else N H3)
    (q : ∀ D H' acc, H D = none → H' D = some (.lst acc) → J xs.length acc H' → Q (.ref D) H') : kZip K (kLc g tt te vs σ Q) [.ref a, .ref b] H := by
  refine ⟨a, b, xs, ys, rfl, .inr ⟨h1, h2, fun D nD => ?_⟩⟩
  refine ⟨fun i m H1 => m = xs.length - i ∧ i ≤ xs.length ∧ ∃ acc, H1 D = some (.lst acc) ∧ acc.length ≤ i ∧ J i acc H1, ⟨xs.length, rfl, Nat.zero_le _, [], upd_same, Nat.le_refl _, start D _ (.of nD)⟩, ?_⟩
  rintro i m H1 ⟨rfl, hi, acc, hD, hacc, hJ⟩
  obtain ⟨s1, s2⟩ := held i acc H1 hJ
  by_cases lt : i < xs.length
  · have lt2 : i < ys.length := by omega
    refine .inr ⟨⟨xs, ys, xs[i], ys[i], s1, s2, List.getElem?_eq_getElem lt, List.getElem?_eq_getElem lt2⟩, fun H' => ∃ acc, H' D = some (.lst acc) ∧ acc.length ≤ i + 1 ∧ J (i + 1) acc H', fun H' h => ⟨xs.length - (i + 1), by omega, rfl, lt, h⟩, ?_⟩
    rintro x H' ⟨T, x1, y1, rfl, nT, rfl, e1, e2⟩
    have DT : D ≠ T := ne_of_none hD nT
    refine turn D i x1 y1 T _ acc _ _ nD (e1 _ s1) (e2 _ s2) (keep2 T i acc H1 _ nT hJ) (by rw [upd_ne DT]; exact hD) upd_same (fun z H3 hJ3 hD3 => ?_) (fun H3 hJ3 hD3 => ?_)
    · refine ⟨acc, hD3, small1000 (by omega), acc ++ [z], upd_same, ?_, keep D _ _ _ _ nD hJ3⟩
      rw [List.length_append]
      show acc.length + 1 ≤ i + 1
      omega
    · exact ⟨acc, hD3, by omega, hJ3⟩
  · have e : i = xs.length := by omega
    subst e
    exact .inl ⟨⟨xs, ys, s1, s2, .inl (Nat.le_refl _)⟩, q D H1 acc nD hD hJ⟩
theorem rd_sorted2 {p : Addr} {x y : Int} (h : SqL K H p [.int x, .int y]) (q : ∀ (a b : Int) (l : Addr) (H' : Hp), a ≤ b → (a = x ∧ b = y ∨ a = y ∧ b = x) → New H l (.lst [.int a, .int b]) H' → Q (.ref l) H') : rSorted K [.ref p] H Q := by
  refine ⟨p, [x, y], rfl, h, by show 2 < 64; decide, fun ns l perm ord nl => ?_⟩
  match ns, perm.length_eq, perm, ord with
  | [a, b], _, perm, ord =>
    have hab : a ≤ b := by
      cases ord with
      | cons h _ => exact h b (List.mem_singleton.mpr rfl)
    have ha : a ∈ [x, y] := perm.subset List.mem_cons_self
    refine q a b l _ hab ?_ (.of nl)
    simp only [List.mem_cons, List.not_mem_nil, or_false] at ha
    rcases ha with rfl | rfl
    · exact .inl ⟨rfl, List.mem_singleton.mp ((List.Perm.cons_inv perm).subset List.mem_cons_self)⟩
    · exact .inr ⟨rfl, List.mem_singleton.mp ((List.Perm.cons_inv (perm.trans (List.Perm.swap ..))).subset List.mem_cons_self)⟩
theorem rd_repI (h : i.natAbs.log2 < 1920) (q : Q (.str (toString i)) H) : rRepI [.int i] H Q := ⟨i, rfl, h, q⟩
theorem rd_max2 (q : Q (.int (if j > i then j else i)) H) : rMx2 [.int i, .int j] H Q := ⟨i, j, rfl, q⟩
theorem rd_min2 (q : Q (.int (if j < i then j else i)) H) : rMn2 [.int i, .int j] H Q := ⟨i, j, rfl, q⟩
theorem rd_brT {b : Bool} {A B : Prop} (h : b = true) (q : A) : if b = true then A else B := by rw [if_pos h]; exact q
theorem rd_brF {b : Bool} {A B : Prop} (h : b = false) (q : B) : if b = true then A else B := by rw [if_neg (by rw [h]; decide)]; exact q
theorem rd_ixT {p : Addr} {xs : List V} (h : SqT K H p xs) (e : atI xs i = some v) (q : Q v H) : rIxT K (.ref p) (.int i) H Q := ⟨p, xs, i, v, rfl, rfl, h, e, q⟩
theorem rd_ixD {w : World} {p : Addr} {z : Str} (h : KDct K w p z v) (q : Q v H) : rIxD K w (.ref p) (.str z) H Q := ⟨p, z, v, rfl, rfl, h, q⟩
theorem rd_inD {w : World} {p : Addr} {z : Str} {b : Bool} (h : KHas K w p z b) (q : Q (.bl b) H) : rInD K w (.str z) (.ref p) H Q := ⟨z, p, b, rfl, rfl, h, q⟩
theorem rd_slT {a : Addr} {xs : List V} {lo hi : Option Int} (h : SqT K H a xs) (part : HT.sIx xs.length 0 lo ≠ 0) (q : ∀ p H', New H p (.tup (cutV xs lo hi)) H' → Q (.ref p) H') : rSlT K (.ref a) lo hi H Q :=
  ⟨a, xs, rfl, h, fun z => part z.1, fun p n => q p _ (.of n)⟩
theorem rd_sum {p : Addr} {ns : List Int} (h : SqL K H p (ns.map V.int)) (q : Q (.int ns.sum) H) : rSum K [.ref p] H Q := ⟨p, ns, rfl, h, q⟩
theorem rd_isiT {p : Addr} {xs : List V} (h : H p = some (.tup xs)) (q : Q (.bl true) H) : rIsi K [.ref p, .ty "tuple"] H Q :=
  ⟨_, _, _, _, true, rfl, .ty _, .base (.tup h), kit_ty (by decide +kernel), q⟩
theorem rd_isiI (q : Q (.bl false) H) : rIsi K [.int i, .ty "tuple"] H Q :=
  ⟨_, _, _, _, false, rfl, .ty _, .base (.int i), kit_ty (by decide +kernel), q⟩
theorem rd_in {neg : Bool} {p : Addr} {xs : List V} (h : SqT K H p xs) (hx : flatV x = true) (ha : xs.all flatV = true) (q : Q (.bl (if neg then !inV x xs else inV x xs)) H) : rIn K neg x (.ref p) H Q :=
  ⟨p, xs, rfl, .inr h, hx, ha, q⟩
end
/-- what is asked of the numbers by the way -/
local macro_rules | `(tactic| walk_at "side") => `(tactic| first
  | rfl
  | decide
  | assumption
  | omega
  | (unfold CMul; omega)
  | (unfold CPowW; exact ⟨by decide, by decide +kernel⟩)
  | exact wide_mul (a := 1400) (b := 1400) (by decide +kernel) (by decide +kernel) (by decide) (by decide) (by decide)
  | exact wide_div (b := 64) (by decide) (by decide) (by decide) (by decide)
  | (unfold CMul; exact Or.inr ⟨by decide, by decide⟩)
  | (unfold CMul; exact Or.inl ⟨by decide, by decide⟩)
  | (unfold CPow; omega)
  | (unfold CPow; refine ⟨by omega, by omega, ?_⟩; omega))
local macro_rules | `(tactic| walk_at "one") => `(tactic| with_reducible first
  | (refine' rd_var ?rdh ?_; (case rdh => with_unfolding_all exact rfl))
  | refine rd_c ?_
  | refine rd_op ?_
  | refine rd_un ?_
  | refine rd_I0 ?_
  | refine rd_I (by walk_at "side") ?_
  | refine rd_U ?_
  | refine rd_seq ?_
  | refine rd_next ?_
  | refine rd_asg ?_
  | refine rd_name ?_
  | refine rd_par ?_
  | refine rd_par2 ?_
  | refine rd_ret ?_
  | refine rd_ifs ?_
  | refine rd_if ?_
  | refine rd_test ?_
  | refine rd_B ?_
  | refine rd_not ?_
  | refine rd_and ?_
  | refine rd_or ?_
  | refine rd_andV ?_
  | refine rd_orV ?_
  | refine rd_notV ?_
  | refine rd_chain ?_
  | refine rd_k ?_
  | refine rd_eq (by with_unfolding_all rfl) ?_
  | refine rd_ne (by with_unfolding_all rfl) ?_
  | refine rd_call ?_
  | refine rd_cb ?_
  | refine rd_nil ?_
  | refine rd_cons ?_
  | refine rd_lst ?_
  | refine rd_gcons ?_
  | refine rd_gnil ?_
  | refine rd_sub ?_
  | (refine' rd_ixL (SqL.of (by assumption)) ?rde ?_; (case rde => with_unfolding_all exact rfl))
  | refine rd_intI ?_
  | refine rd_intB ?_
  | refine rd_abs ?_
  | refine rd_sl ?_
  | refine rd_nopart ?_
  | refine rd_part ?_
  | refine rd_pi ?_
  | refine rd_nt ?_
  | refine rd_nf ?_
  | refine rd_t ?_
  | refine rd_f ?_
  | refine rd_for ?_
  | refine rd_max2 ?_
  | refine rd_izip ?_
  | refine rd_min2 ?_
  | (refine' rd_in (SqT.of (by assumption)) ?rdf ?rda ?_; (case rdf => with_unfolding_all rfl); (case rda => with_unfolding_all rfl))
  | refine rd_lc ?_
  | refine rd_itup ?_
  | refine rd_tyes ?_
  | (refine' rd_ixT (SqT.of (by assumption)) ?rde ?_; (case rde => first | exact at_head | with_unfolding_all exact rfl))
  | refine rd_ilist ?_
  | refine rd_irng ?_
  | refine rd_tup ?_)
local macro_rules | `(tactic| walk_at "rd") => `(tactic| repeat walk_at "one")
/-- one of two ways, by a written text -/
local macro_rules | `(tactic| walk_at "br") => `(tactic| first
  | refine rd_yes (by decide +kernel) ?_
  | refine rd_no (by decide +kernel) ?_
  | refine rd_yesN (by decide +kernel) ?_
  | refine rd_noN (by decide +kernel) ?_
  | refine rd_brT (by decide +kernel) ?_
  | refine rd_brF (by decide +kernel) ?_)
local macro_rules | `(tactic| walk_at "go") => `(tactic| repeat (first | walk_at "one" | walk_at "br"))
def topS (i : Nat) : Stmt := PySem.Challenge.pw_wordsalike_k05_whole_equations_of_operat.main.body.getD i (.Pass ⟨0, 0, 0, 0⟩)
abbrev s_greatest_word : Stmt := topS 1
abbrev n_greatest_word : List Str := ["width"]
theorem sc_greatest_word : FnScope n_greatest_word ["width"] (defScope s_greatest_word) :=
  ⟨rfl, rfl, rfl, by decide +kernel, rfl, by decide +kernel, by decide +kernel⟩
abbrev s_to_word : Stmt := topS 2
abbrev n_to_word : List Str := ["number", "width"]
theorem sc_to_word : FnScope n_to_word ["number", "width"] (defScope s_to_word) :=
  ⟨rfl, rfl, rfl, by decide +kernel, rfl, by decide +kernel, by decide +kernel⟩
abbrev s_signed_value : Stmt := topS 3
abbrev n_signed_value : List Str := ["word", "width"]
theorem sc_signed_value : FnScope n_signed_value ["word", "width"] (defScope s_signed_value) :=
  ⟨rfl, rfl, rfl, by decide +kernel, rfl, by decide +kernel, by decide +kernel⟩
abbrev s_parts_of : Stmt := topS 7
abbrev n_parts_of : List Str := ["expression"]
theorem sc_parts_of : FnScope n_parts_of ["expression"] (defScope s_parts_of) :=
  ⟨rfl, rfl, rfl, by decide +kernel, rfl, by decide +kernel, by decide +kernel⟩
abbrev s_value_by_number : Stmt := topS 8
abbrev n_value_by_number : List Str := ["operation", "word", "number", "width"]
theorem sc_value_by_number : FnScope n_value_by_number ["operation", "word", "number", "width"] (defScope s_value_by_number) :=
  ⟨rfl, rfl, rfl, by decide +kernel, rfl, by decide +kernel, by decide +kernel⟩
abbrev s__number_of_two : Stmt := topS 9
abbrev n__number_of_two : List Str := ["operation", "x", "y"]
theorem sc__number_of_two : FnScope n__number_of_two ["operation", "x", "y"] (defScope s__number_of_two) :=
  ⟨rfl, rfl, rfl, by decide +kernel, rfl, by decide +kernel, by decide +kernel⟩
abbrev s_value_by_parts : Stmt := topS 10
abbrev n_value_by_parts : List Str := ["operation", "values", "width"]
theorem sc_value_by_parts : FnScope n_value_by_parts ["operation", "values", "width"] (defScope s_value_by_parts) :=
  ⟨rfl, rfl, rfl, by decide +kernel, rfl, by decide +kernel, by decide +kernel⟩
abbrev s_value_at : Stmt := topS 11
abbrev n_value_at : List Str := ["expression", "width", "words", "operation", "values", "part"]
theorem sc_value_at : FnScope n_value_at ["expression", "width", "words"] (defScope s_value_at) :=
  ⟨rfl, rfl, rfl, by decide +kernel, rfl, by decide +kernel, by decide +kernel⟩
abbrev s__law_draws : Stmt := topS 13
abbrev n__law_draws : List Str := ["_law_script", "_law_cells", "_law_cell"]
theorem sc__law_draws : FnScope n__law_draws ["_law_script"] (defScope s__law_draws) :=
  ⟨rfl, rfl, rfl, by decide +kernel, rfl, by decide +kernel, by decide +kernel⟩
abbrev s__law_next : Stmt := topS 14
abbrev n__law_next : List Str := ["_law_drawn", "_law_many", "_law_cells", "_law_turn", "_law_rests", "_law_spot", "_law_digit", "_law_mixed", "_law_again"]
theorem sc__law_next : FnScope n__law_next ["_law_drawn", "_law_many"] (defScope s__law_next) :=
  ⟨rfl, rfl, rfl, by decide +kernel, rfl, by decide +kernel, by decide +kernel⟩
abbrev s__law_one : Stmt := topS 15
abbrev n__law_one : List Str := ["_law_drawn", "_law_items"]
theorem sc__law_one : FnScope n__law_one ["_law_drawn", "_law_items"] (defScope s__law_one) :=
  ⟨rfl, rfl, rfl, by decide +kernel, rfl, by decide +kernel, by decide +kernel⟩
abbrev s__law_width : Stmt := topS 16
abbrev n__law_width : List Str := ["_law_drawn"]
theorem sc__law_width : FnScope n__law_width ["_law_drawn"] (defScope s__law_width) :=
  ⟨rfl, rfl, rfl, by decide +kernel, rfl, by decide +kernel, by decide +kernel⟩
abbrev s__law_word : Stmt := topS 17
abbrev n__law_word : List Str := ["_law_drawn", "_law_width_here", "_law_top", "_law_free", "_law_some"]
theorem sc__law_word : FnScope n__law_word ["_law_drawn", "_law_width_here"] (defScope s__law_word) :=
  ⟨rfl, rfl, rfl, by decide +kernel, rfl, by decide +kernel, by decide +kernel⟩
abbrev s__law_input : Stmt := topS 18
abbrev n__law_input : List Str := ["_law_drawn", "_law_width_here", "_law_k"]
theorem sc__law_input : FnScope n__law_input ["_law_drawn", "_law_width_here"] (defScope s__law_input) :=
  ⟨rfl, rfl, rfl, by decide +kernel, rfl, by decide +kernel, by decide +kernel⟩
abbrev s__law_number : Stmt := topS 19
abbrev n__law_number : List Str := ["_law_drawn", "_law_some"]
theorem sc__law_number : FnScope n__law_number ["_law_drawn"] (defScope s__law_number) :=
  ⟨rfl, rfl, rfl, by decide +kernel, rfl, by decide +kernel, by decide +kernel⟩
abbrev s__law_leaf : Stmt := topS 20
abbrev n__law_leaf : List Str := ["_law_drawn"]
theorem sc__law_leaf : FnScope n__law_leaf ["_law_drawn"] (defScope s__law_leaf) :=
  ⟨rfl, rfl, rfl, by decide +kernel, rfl, by decide +kernel, by decide +kernel⟩
abbrev s__law_counted : Stmt := topS 21
abbrev n__law_counted : List Str := ["_law_operation"]
theorem sc__law_counted : FnScope n__law_counted ["_law_operation"] (defScope s__law_counted) :=
  ⟨rfl, rfl, rfl, by decide +kernel, rfl, by decide +kernel, by decide +kernel⟩
abbrev s__law_nodes : Stmt := topS 22
abbrev n__law_nodes : List Str := ["_law_expression", "_law_part"]
theorem sc__law_nodes : FnScope n__law_nodes ["_law_expression"] (defScope s__law_nodes) :=
  ⟨rfl, rfl, rfl, by decide +kernel, rfl, by decide +kernel, by decide +kernel⟩
abbrev s__law_tree : Stmt := topS 23
abbrev n__law_tree : List Str := ["_law_drawn", "_law_size", "_law_kinds", "_law_operation", "_law_below", "_law_part", "_law_other"]
theorem sc__law_tree : FnScope n__law_tree ["_law_drawn", "_law_size", "_law_kinds"] (defScope s__law_tree) :=
  ⟨rfl, rfl, rfl, by decide +kernel, rfl, by decide +kernel, by decide +kernel⟩
abbrev s__law_all : Stmt := topS 24
abbrev n__law_all : List Str := ["_law_found"]
theorem sc__law_all : FnScope n__law_all [] (defScope s__law_all) :=
  ⟨rfl, rfl, rfl, by decide +kernel, rfl, by decide +kernel, by decide +kernel⟩
abbrev s__law_sums : Stmt := topS 25
abbrev n__law_sums : List Str := ["_law_x", "_law_y", "_law_both", "_law_found"]
theorem sc__law_sums : FnScope n__law_sums ["_law_x", "_law_y"] (defScope s__law_sums) :=
  ⟨rfl, rfl, rfl, by decide +kernel, rfl, by decide +kernel, by decide +kernel⟩
abbrev s__law_divisions : Stmt := topS 26
abbrev n__law_divisions : List Str := ["_law_x", "_law_amount", "_law_divisor", "_law_power", "_law_whole", "_law_found"]
theorem sc__law_divisions : FnScope n__law_divisions ["_law_x", "_law_amount", "_law_divisor"] (defScope s__law_divisions) :=
  ⟨rfl, rfl, rfl, by decide +kernel, rfl, by decide +kernel, by decide +kernel⟩
abbrev s__law_choices : Stmt := topS 27
abbrev n__law_choices : List Str := ["_law_x", "_law_y", "_law_amount", "_law_width_here", "_law_one_here", "_law_half", "_law_low", "_law_high", "_law_found"]
theorem sc__law_choices : FnScope n__law_choices ["_law_x", "_law_y", "_law_amount", "_law_width_here"] (defScope s__law_choices) :=
  ⟨rfl, rfl, rfl, by decide +kernel, rfl, by decide +kernel, by decide +kernel⟩
abbrev s_law : Stmt := topS 28
abbrev n_law : List Str := ["_law_script", "_law_drawn", "_law_turn", "_law_width_here", "_law_size", "_law_x", "_law_y", "_law_amount", "_law_divisor", "_law_pairs", "_law_again", "_law_words", "_law_one_here", "_law_other"]
theorem sc_law : FnScope n_law ["_law_script"] (defScope s_law) :=
  ⟨rfl, rfl, rfl, by decide +kernel, rfl, by decide +kernel, by decide +kernel⟩
structure Top (mg : Str → Option Value) : Prop where
  z_int : mg "int" = none
  z_isinstance : mg "isinstance" = none
  z_len : mg "len" = none
  z_list : mg "list" = none
  z_max : mg "max" = none
  z_range : mg "range" = none
  z_sum : mg "sum" = none
  z_tuple : mg "tuple" = none
/-! ### the drawn numbers -/
/-- the state of the draws: the list at d, the rests at r, so many draws -/
def Dr (H : Hp) (d r c : Addr) (t : Int) : Prop := ∃ (cells rests : List Int), d ≠ r ∧ c ≠ d ∧ c ≠ r ∧ H d = some (.lst [.ref c, .int t, .ref r]) ∧ H c = some (.lst (cells.map V.int)) ∧
  H r = some (.lst (rests.map V.int)) ∧ rests.length = cells.length ∧ 0 < cells.length ∧ cells.length ≤ 63 ∧ 0 ≤ t
/-- all but the two lists is as it was -/
def Fr (d r : Addr) (H H' : Hp) : Prop := ∀ b o, b ≠ d → b ≠ r → H b = some o → H' b = some o
theorem Fr.refl {d r : Addr} {H : Hp} : Fr d r H H := fun _ _ _ _ h => h
theorem Fr.trans {d r : Addr} {H H1 H2 : Hp} (a : Fr d r H H1) (b : Fr d r H1 H2) : Fr d r H H2 := fun x o n m h => b x o n m (a x o n m h)
theorem Fr.of {d r : Addr} {H H' : Hp} (a : Same H H') : Fr d r H H' := fun x o _ _ h => a x o h
theorem Dr.same {H H' : Hp} {d r c : Addr} {t : Int} (D : Dr H d r c t) (s : Same H H') : Dr H' d r c t := by
  obtain ⟨cells, rests, h1, h2, h3, h4, h5, h6, h⟩ := D
  exact ⟨cells, rests, h1, h2, h3, s _ _ h4, s _ _ h5, s _ _ h6, h⟩
theorem Dr.off {H : Hp} {d r c p : Addr} {t : Int} (D : Dr H d r c t) (n : H p = none) : p ≠ d ∧ p ≠ r := by
  obtain ⟨cells, rests, h1, h2, h3, h4, h5, h6, h⟩ := D
  exact ⟨fun e => (ne_of_none h4 n) e.symm, fun e => (ne_of_none h6 n) e.symm⟩
theorem Dr.offc {H : Hp} {d r c p : Addr} {t : Int} (D : Dr H d r c t) (n : H p = none) : p ≠ c := by
  obtain ⟨cells, rests, h1, h2, h3, h4, h5, h6, h⟩ := D
  exact fun e => (ne_of_none h5 n) e.symm
theorem Dr.upd {H : Hp} {d r c p : Addr} {t : Int} {o : HO} (D : Dr H d r c t) (n1 : p ≠ d) (n2 : p ≠ r) (n3 : p ≠ c) : Dr (upd H p o) d r c t := by
  obtain ⟨cells, rests, h1, h2, h3, h4, h5, h6, h⟩ := D
  refine ⟨cells, rests, h1, h2, h3, ?_, ?_, ?_, h⟩
  · rw [upd_ne n1.symm]
    exact h4
  · rw [upd_ne n3.symm]
    exact h5
  · rw [upd_ne n2.symm]
    exact h6
theorem Fr.upd {d r : Addr} {H H' : Hp} {p : Addr} {o : HO} (f : Fr d r H H') (n : H p = none) : Fr d r H (upd H' p o) := fun b u n1 n2 e => by
  rw [upd_ne (ne_of_none e n)]
  exact f b u n1 n2 e
def sp_next : Sp := fun vs H Q _ => ∃ (d r c : Addr) (t m : Int), vs = [.ref d, .int m] ∧ Dr H d r c t ∧ t ≤ 1000000 ∧ 0 < m ∧ m.natAbs < 2 ^ 8000 ∧
  ∀ H' v, 0 ≤ v → v < m → Dr H' d r c (t + 1) → Fr d r H H' → Q (.int v) H'
def sp_one : Sp := fun vs H Q _ => ∃ (d r c a : Addr) (t : Int) (xs : List V), vs = [.ref d, .ref a] ∧ Dr H d r c t ∧ t ≤ 1000000 ∧ a ≠ d ∧ a ≠ r ∧ H a = some (.lst xs) ∧ 0 < xs.length ∧ xs.length ≤ 1000 ∧
  ∀ H' v, v ∈ xs → Dr H' d r c (t + 1) → Fr d r H H' → Q v H'
def sp_draws (K : PySem.W.Frag) : Sp := fun vs H Q _ => ∃ (a : Addr) (ns : List Int), vs = [.ref a] ∧ SqL K H a (ns.map V.int) ∧ ns.length ≤ 63 ∧
  ∀ H' d r c, H d = none → H r = none → Dr H' d r c 0 → Same H H' → Q (.ref d) H'
section
variable {P : Program} {w : World} {K : PySem.W.Frag} {mg : Str → Option Value} {base : Heap} {f : Addr} {fd : FuncData}
theorem mul_bounds {t : Int} (h0 : 0 ≤ t) (h1 : t ≤ 1000000) : 0 ≤ 6007 * t * t ∧ 6007 * t * t ≤ 6007000000000000 := by
  have a : 0 ≤ t * t := Int.mul_nonneg h0 h0
  have b : t * t ≤ 1000000 * 1000000 := Int.mul_le_mul h1 h1 h0 (by decide)
  rw [Int.mul_assoc]
  omega
theorem ok_next (T : Top mg) (F : Fun K "_law_next" "_law_next" s__law_next f fd) : FnOk P w K mg base CX0 1 f fd ["_law_drawn", "_law_many"] sp_next := by
  refine F.ok sc__law_next (fun vs H Q E h => ?_) (fun cdv A outer s H vs Q E hr h => ?_)
  · obtain ⟨d, r, c, t, m, rfl, _⟩ := h
    rfl
  · obtain ⟨d, r, c, t, m, rfl, ⟨cells, rests, dr, cd, cr, hd, hc, hrs, hl, h1, h63, t0⟩, t1, m0, m1, q⟩ := h
    refine ⟨_, (pss_cons (ps_asg (pv 0) (pg_unl rfl (pgs_cons (pg_name (i := 2) sc__law_next.nd rfl (by first | exact Or.inl rfl | exact Or.inr rfl)) (pgs_cons (pg_name (i := 3) sc__law_next.nd rfl (by first | exact Or.inl rfl | exact Or.inr rfl)) (pgs_cons (pg_name (i := 4) sc__law_next.nd rfl (by first | exact Or.inl rfl | exact Or.inr rfl)) pgs_nil)))))
      (pss_cons (ps_set (i := 5) sc__law_next.nd rfl (by first | exact Or.inl rfl | exact Or.inr rfl) (pe_op op_mod (pv 3) (pe_callB (len_k (K := K) rfl) (by rfl) T.z_len PySem.boot_len (pa_cons (pv 2) pa_nil))))
      (pss_cons (ps_asg (pe_op op_add (pv 3) pe_int) (pg_sub (pv 0) pe_int set_list))
      (pss_cons (ps_if (pt_cmpR op_gt (pe_ix (ixl_k (K := K) rfl) (pv 4) (pv 5) (fun _ _ => rfl)) pe_int (nomark _))
       (pss_cons (ps_set (i := 6) sc__law_next.nd rfl (by first | exact Or.inl rfl | exact Or.inr rfl) (pe_op op_mod (pe_ix (ixl_k (K := K) rfl) (pv 4) (pv 5) (fun _ _ => rfl)) (pv 1)))
        (pss_cons (ps_asg (pe_op op_fdivW (pe_ix (ixl_k (K := K) rfl) (pv 4) (pv 5) (fun _ _ => rfl)) (pv 1)) (pg_sub (pv 4) (pv 5) set_list))
        (pss_one (ps_ret (pv 6)))))
       pss_nil)
      (pss_cons (ps_set (i := 7) sc__law_next.nd rfl (by first | exact Or.inl rfl | exact Or.inr rfl) (pe_op op_mod (pe_op op_pow (pe_op op_add (pe_op op_add (pe_op op_mod (pe_ix (ixl_k (K := K) rfl) (pv 2) (pv 5) (fun _ _ => rfl)) pe_int) (pe_op op_mul pe_int (pv 3))) pe_int) pe_int) pe_int))
      (pss_cons (ps_set (i := 8) sc__law_next.nd rfl (by first | exact Or.inl rfl | exact Or.inr rfl) (pe_op op_mod (pe_op op_pow (pe_op op_add (pe_op op_add (pv 7) (pe_op op_mul (pe_op op_mul pe_int (pv 3)) (pv 3))) pe_int) pe_int) pe_int))
      (pss_one (ps_ret (pe_op op_mod (pe_op op_mod (pe_op op_add (pe_op op_mul (pv 8) pe_int) (pv 7)) pe_int) (pv 1)))))))))), ?_⟩
    walk_at "rd"
    refine rd_unl (SqL.of hd) rfl ?_
    walk_at "rd"
    refine rd_len (SqL.of hc) ?_
    rw [List.length_map]
    have hn : (0 : Int) < (cells.length : Int) := by omega
    walk_at "rd"
    have s0 : 0 ≤ t % (cells.length : Int) := Int.emod_nonneg _ (by omega)
    have s1 : t % (cells.length : Int) < (cells.length : Int) := Int.emod_lt_of_pos _ hn
    generalize hs : t % (cells.length : Int) = spot at s0 s1
    refine rd_set hd (m := 1) rfl ?_
    walk_at "rd"
    obtain ⟨z, hz, zm, az⟩ := at_ints (ns := rests) s0 (by rw [hl]; exact s1)
    obtain ⟨y, hy, ym, ay⟩ := at_ints (ns := cells) s0 s1
    generalize hH : upd H d (.lst ([V.ref c, V.int t, V.ref r].set 1 (.int (t + 1)))) = H1
    have d1 : H1 d = some (.lst [.ref c, .int (t + 1), .ref r]) := by
      rw [← hH, upd_same]
      rfl
    have c1 : H1 c = some (.lst (cells.map V.int)) := by
      rw [← hH, upd_ne cd]
      exact hc
    have r1 : H1 r = some (.lst (rests.map V.int)) := by
      rw [← hH, upd_ne dr.symm]
      exact hrs
    have f1 : Fr d r H H1 := fun b o n1 n2 e => by
      rw [← hH, upd_ne n1]
      exact e
    refine rd_ixL (SqL.of r1) az ?_
    walk_at "rd"
    refine rd_dec (fun zp => ?_) fun zn => ?_
    · walk_at "rd"
      refine rd_ixL (SqL.of r1) az ?_
      walk_at "rd"
      refine rd_ixL (SqL.of r1) az ?_
      walk_at "rd"
      refine rd_I (wide_div m0 m1 (by decide) (by decide)) ?_
      walk_at "rd"
      refine rd_set r1 (m := spot.toNat) (by rw [List.length_map, hl]; exact ix_in s0 s1) ?_
      walk_at "rd"
      refine q _ _ (Int.emod_nonneg _ (by omega)) (Int.emod_lt_of_pos _ m0) ⟨cells, rests.set spot.toNat (z / m), dr, cd, cr, ?_, ?_, ?_, ?_, h1, h63, by omega⟩ ?_
      · rw [upd_ne dr]
        exact d1
      · rw [upd_ne cr]
        exact c1
      · rw [upd_same, List.map_set]
      · rw [List.length_set]
        exact hl
      · exact f1.trans fun b o n1 n2 e => by
          rw [upd_ne n2]
          exact e
    · walk_at "rd"
      refine rd_ixL (SqL.of c1) ay ?_
      obtain ⟨p0, p1⟩ := mul_bounds t0 t1
      walk_at "rd"
      exact q _ _ (Int.emod_nonneg _ (by omega)) (Int.emod_lt_of_pos _ m0) ⟨cells, rests, dr, cd, cr, d1, c1, r1, hl, h1, h63, by omega⟩ f1
theorem ok_one {f2 : Addr} {fd2 : FuncData} (T : Top mg) (D__law_next : Df K mg "_law_next" s__law_next ["_law_drawn", "_law_many"] f2 fd2) (F : Fun K "_law_one" "_law_one" s__law_one f fd) : FnOk P w K mg base CX0 2 f fd ["_law_drawn", "_law_items"] sp_one := by
  have G__law_next : FnOk P w K mg base CX0 1 f2 fd2 _ sp_next := ok_next T D__law_next.fn
  refine F.ok sc__law_one (fun vs H Q E h => ?_) (fun cdv A outer s H vs Q E hr h => ?_)
  · obtain ⟨d, r, c, a, t, xs, rfl, _⟩ := h
    rfl
  · obtain ⟨d, r, c, a, t, xs, rfl, hD, t1, ad, ar, ha, h0, hz, q⟩ := h
    refine ⟨_, (pss_one (ps_ret (pe_ix (ixl_k (K := K) rfl) (pv 1) (callF D__law_next G__law_next (hr.mono (by omega)) (by rfl) (pa_cons (pv 0) (pa_cons (pe_callB (len_k (K := K) rfl) (by rfl) T.z_len PySem.boot_len (pa_cons (pv 1) pa_nil)) pa_nil))) (fun _ _ => rfl)))), ?_⟩
    walk_at "rd"
    refine rd_len (SqL.of ha) ?_
    walk_at "rd"
    have hb : ((xs.length : Int)).natAbs < 2 ^ 8000 := Nat.lt_of_le_of_lt (by omega : ((xs.length : Int)).natAbs ≤ 1000) (Nat.lt_of_lt_of_le (by decide : 1000 < 2 ^ 10) (Nat.pow_le_pow_right (by decide) (by decide)))
    refine ⟨d, r, c, t, (xs.length : Int), rfl, hD, t1, by omega, hb, fun H1 v v0 v1 D1 f1 => ?_⟩
    have hj : v.toNat < xs.length := by omega
    have ea : atI xs v = some xs[v.toNat] := by
      unfold atI
      rw [ix_in v0 v1]
      exact List.getElem?_eq_getElem hj
    exact rd_ixL (SqL.of (f1 _ _ ad ar ha)) ea (q H1 _ (List.getElem_mem hj) D1 f1)
theorem ok_draws (T : Top mg) (F : Fun K "_law_draws" "_law_draws" s__law_draws f fd) : FnOk P w K mg base CX0 1 f fd ["_law_script"] (sp_draws K) := by
  refine F.ok sc__law_draws (fun vs H Q E h => ?_) (fun cdv A outer s H vs Q E hr h => ?_)
  · obtain ⟨a, ns, rfl, _⟩ := h
    rfl
  · obtain ⟨a, ns, rfl, hS, hn, q⟩ := h
    refine ⟨_, (pss_cons (ps_set (i := 1) sc__law_draws.nd rfl (by first | exact Or.inl rfl | exact Or.inr rfl) (pe_op op_cat (pe_callTy (list_k (K := K) rfl) (by rfl) T.z_list (by decide +kernel) (pa_cons (pe_slice (sll_k (K := K) rfl) (pv 0) po_none (po_some pe_int)) pa_nil)) (pe_op op_rep (pe_lst (pa_cons pe_int pa_nil)) (pe_callTy int_1 (by rfl) T.z_int (by decide +kernel) (pa_cons (pe_cmpR op_eq (pe_callB (len_k (K := K) rfl) (by rfl) T.z_len PySem.boot_len (pa_cons (pv 0) pa_nil)) pe_int (nomark _)) pa_nil)))))
      (pss_one (ps_ret (pe_lst (pa_cons (pv 1) (pa_cons pe_int (pa_cons (pe_lc (own := [("_law_cell", 2)]) (g := _) (tt := tYes) (by rfl) sc__law_draws.nd (pi_list (pv 1)) (blkOk_by (own := [("_law_cell", 2)]) (N := n__law_draws) (sc := defScope s__law_draws) (by decide +kernel)) (fun _ _ _ _ _ => (pg_name (i := 2) sc__law_draws.nd rfl (by first | exact Or.inl rfl | exact Or.inr rfl))) (fun _ _ _ _ _ => pts_nil) (fun _ _ _ _ _ => (pe_op op_mul (pv 2) (pe_callTy int_1 (by rfl) T.z_int (by decide +kernel) (pa_cons (pe_cmpR op_ge (pv 2) (pe_op op_pow pe_int pe_int) (nomark _)) pa_nil))))) pa_nil))))))), ?_⟩
    walk_at "rd"
    refine rd_slL hS fun p1 H1 n1 => ?_
    have e1 : cutV (ns.map V.int) none (some 63) = ns.map V.int := by
      unfold cutV
      rw [HT.sIx_none, List.length_map]
      have : HT.sIx ns.length ns.length (some 63) = ns.length := by
        rw [show (63 : Int) = ((63 : Nat) : Int) from rfl, HT.sIx_nat]
        omega
      rw [this]
      show List.take ns.length (ns.map V.int) = _
      exact List.take_of_length_le (by rw [List.length_map]; exact Nat.le_refl _)
    rw [e1] at n1
    walk_at "rd"
    refine rd_listL (SqL.of n1.here) fun p2 H2 n2 => ?_
    walk_at "rd"
    refine rd_new (by decide) fun p3 H3 n3 => ?_
    walk_at "rd"
    have s3 : Same H H3 := n1.same.trans (n2.same.trans n3.same)
    refine rd_len (s3.seq hS) ?_
    rw [List.length_map]
    walk_at "rd"
    -- [0] * int(len(script) == 0)
    obtain ⟨cells, ec, h1, h63, hrep⟩ : ∃ cells : List Int, cells = ns ++ (List.replicate (if decide (V.int (ns.length : Int) = V.int 0) = true then (1 : Int) else 0).toNat [(0 : Int)]).flatten ∧ 0 < cells.length ∧ cells.length ≤ 63 ∧ ((if decide (V.int (ns.length : Int) = V.int 0) = true then (1 : Int) else 0) = 0 ∨ (if decide (V.int (ns.length : Int) = V.int 0) = true then (1 : Int) else 0) = 1) := by
      by_cases h0 : ns.length = 0
      · have : decide (V.int (ns.length : Int) = V.int 0) = true := decide_eq_true (by rw [h0]; rfl)
        rw [this]
        refine ⟨_, rfl, ?_, ?_, .inr rfl⟩ <;> (rw [List.length_append, h0]; decide)
      · have : decide (V.int (ns.length : Int) = V.int 0) = false := decide_eq_false (fun z => h0 (by have := V.int.inj z; omega))
        rw [this]
        refine ⟨_, rfl, ?_, ?_, .inl rfl⟩ <;> (rw [List.length_append]; show _ ; simp; omega)
    generalize hk : (if decide (V.int (ns.length : Int) = V.int 0) = true then (1 : Int) else 0) = k at ec hrep
    refine rd_rep (i := k) n3.here (by omega) (by omega) (by show 1 * k.toNat ≤ 1000; omega) fun p4 H4 n4 => ?_
    have zl : (ns.map V.int).length ≤ 63 := by rw [List.length_map]; exact hn
    have zk : ((List.replicate k.toNat [V.int 0]).flatten).length ≤ 1 := by
      rcases hrep with e | e <;> (rw [e]; decide)
    refine rd_cat (n4.same _ _ (n3.same _ _ n2.here)) n4.here (by omega) (fun p5 H5 n5 => ?_)
    have e5 : ns.map V.int ++ (List.replicate k.toNat [V.int 0]).flatten = cells.map V.int := by
      rw [ec, List.map_append, List.map_flatten, List.map_replicate]
      rfl
    rw [e5] at n5
    walk_at "rd"
    refine rd_lcF (zs := cells) (emb := V.int) (f := fun c => .int (c * if 10 ^ 18 ≤ c then 1 else 0)) (a := p5) (SqL.of n5.here) (by omega) (fun z H6 R _ s6 go => ?_) (fun p6 H6 n6 => ?_)
    · walk_at "rd"
      refine ⟨rfl, ?_⟩
      walk_at "rd"
      have e18 : (if decide ((10 : Int) ^ (18 : Int).toNat ≤ z) = true then (1 : Int) else 0) = if 10 ^ 18 ≤ z then 1 else 0 := by
        by_cases h : (10 : Int) ^ 18 ≤ z
        · rw [if_pos h]
          exact if_pos (decide_eq_true h)
        · rw [if_neg h]
          exact if_neg fun w => h (of_decide_eq_true w)
      rw [e18]
      exact go H6 fun _ _ h => h
    · walk_at "rd"
      refine rd_new (by decide : 3 ≤ 1000) fun p7 H7 n7 => ?_
      have s5 : Same H H5 := s3.trans (n4.same.trans n5.same)
      have s7 : Same H5 H7 := n6.same.trans n7.same
      refine q H7 p7 p6 p5 ?_ ?_ ⟨cells, cells.map fun c => c * if 10 ^ 18 ≤ c then 1 else 0, ?_, ?_, ?_, n7.here, s7 _ _ n5.here, ?_, ?_, h1, h63, by decide⟩ (s5.trans s7)
      · exact (s5.trans n6.same).free n7.free
      · exact s5.free n6.free
      · exact (ne_of_none n6.here n7.free).symm
      · exact ne_of_none (n6.same _ _ n5.here) n7.free
      · exact ne_of_none n5.here n6.free
      · rw [n7.same _ _ n6.here, List.map_map]
        rfl
      · rw [List.length_map]
end
/-! ### words -/
def sp_greatest : Sp := fun vs H Q _ => ∃ w : Int, vs = [.int w] ∧ 1 ≤ w ∧ w ≤ 64 ∧ Q (.int (2 ^ w.toNat - 1)) H
def sp_toword : Sp := fun vs H Q _ => ∃ n w : Int, vs = [.int n, .int w] ∧ 1 ≤ w ∧ w ≤ 64 ∧ Q (.int (n % 2 ^ w.toNat)) H
def sp_signed : Sp := fun vs H Q _ => ∃ x w : Int, vs = [.int x, .int w] ∧ 1 ≤ w ∧ w ≤ 64 ∧ 0 ≤ x ∧ Q (.int (if x < 2 ^ (w - 1).toNat then x else x - 2 ^ w.toNat)) H
section
variable {P : Program} {w : World} {K : PySem.W.Frag} {mg : Str → Option Value} {base : Heap} {f : Addr} {fd : FuncData}
theorem ok_greatest (T : Top mg) (F : Fun K "greatest_word" "greatest_word" s_greatest_word f fd) : FnOk P w K mg base CX0 1 f fd ["width"] sp_greatest := by
  refine F.ok sc_greatest_word (fun vs H Q E h => ?_) (fun cdv A outer s H vs Q E hr h => ?_)
  · obtain ⟨d, rfl, _⟩ := h
    rfl
  · obtain ⟨n, rfl, w1, w2, q⟩ := h
    refine ⟨_, (pss_one (ps_ret (pe_op op_sub (pe_op op_shl pe_int (pv 0)) pe_int))), ?_⟩
    walk_at "rd"
    rw [Int.one_mul]
    exact q
theorem ok_toword {f2 : Addr} {fd2 : FuncData} (T : Top mg) (D_greatest_word : Df K mg "greatest_word" s_greatest_word ["width"] f2 fd2) (F : Fun K "to_word" "to_word" s_to_word f fd) : FnOk P w K mg base CX0 2 f fd ["number", "width"] sp_toword := by
  have G_greatest_word : FnOk P w K mg base CX0 1 f2 fd2 _ sp_greatest := ok_greatest T D_greatest_word.fn
  refine F.ok sc_to_word (fun vs H Q E h => ?_) (fun cdv A outer s H vs Q E hr h => ?_)
  · obtain ⟨n, d, rfl, _⟩ := h
    rfl
  · obtain ⟨x, n, rfl, w1, w2, q⟩ := h
    refine ⟨_, (pss_one (ps_ret (pe_op op_andM' (pv 0) (callF D_greatest_word G_greatest_word (hr.mono (by omega)) (by rfl) (pa_cons (pv 1) pa_nil))))), ?_⟩
    walk_at "rd"
    exact ⟨n, rfl, w1, w2, rd_andM rfl q⟩
theorem pow_pos2 (k : Nat) : (0 : Int) < 2 ^ k := Int.pow_pos (by decide)
theorem ok_signed (T : Top mg) (F : Fun K "signed_value" "signed_value" s_signed_value f fd) : FnOk P w K mg base CX0 1 f fd ["word", "width"] sp_signed := by
  refine F.ok sc_signed_value (fun vs H Q E h => ?_) (fun cdv A outer s H vs Q E hr h => ?_)
  · obtain ⟨n, d, rfl, _⟩ := h
    rfl
  · obtain ⟨x, n, rfl, w1, w2, x0, q⟩ := h
    refine ⟨_, (pss_cons (ps_if (pt_cmpR op_eq (pe_op op_shr (pv 0) (pe_op op_sub (pv 1) pe_int)) pe_int (nomark _))
       (pss_one (ps_ret (pv 0)))
       pss_nil)
      (pss_one (ps_ret (pe_op op_sub (pv 0) (pe_op op_shl pe_int (pv 1)))))), ?_⟩
    walk_at "rd"
    have hp := pow_pos2 (n - 1).toNat
    refine rd_dec (fun e => ?_) fun e => ?_
    · walk_at "rd"
      have e0 : x / 2 ^ (n - 1).toNat = 0 := V.int.inj e
      rw [if_pos ?_] at q
      · exact q
      · have := Int.lt_ediv_add_one_mul_self x hp
        rw [e0] at this
        omega
    · walk_at "rd"
      rw [if_neg ?_] at q
      · rw [Int.one_mul]
        exact q
      · intro z
        exact e (congrArg V.int (Int.ediv_eq_zero_of_lt x0 z))
end
def sp_width : Sp := fun vs H Q _ => ∃ (d r c : Addr) (t : Int), vs = [.ref d] ∧ Dr H d r c t ∧ t ≤ 900000 ∧ ∀ H' v, 1 ≤ v → v ≤ 64 → Dr H' d r c (t + 2) → Fr d r H H' → Q (.int v) H'
def sp_word : Sp := fun vs H Q _ => ∃ (d r c : Addr) (t n : Int), vs = [.ref d, .int n] ∧ Dr H d r c t ∧ t ≤ 900000 ∧ 1 ≤ n ∧ n ≤ 64 ∧ ∀ H' v, 0 ≤ v → v < 2 ^ n.toNat → Dr H' d r c (t + 4) → Fr d r H H' → Q (.int v) H'
theorem mods {v : Int} {k : Nat} : 0 ≤ v % 2 ^ k ∧ v % 2 ^ k < 2 ^ k := ⟨Int.emod_nonneg _ (Int.ne_of_gt (pow_pos2 k)), Int.emod_lt_of_pos _ (pow_pos2 k)⟩
theorem lt_2_64 {n : Int} (h : n ≤ 64) : (2 : Int) ^ n.toNat ≤ 2 ^ 64 := by
  have h2 : (2 : Nat) ^ n.toNat ≤ 2 ^ 64 := Nat.pow_le_pow_right (by decide) (by omega)
  have h3 : ((2 ^ n.toNat : Nat) : Int) ≤ ((2 ^ 64 : Nat) : Int) := Int.ofNat_le.mpr h2
  rw [Int.natCast_pow, Int.natCast_pow] at h3
  exact h3
theorem bd_pow {n : Int} (h0 : 1 ≤ n) (h : n ≤ 64) : Bd 65 (1 * 2 ^ n.toNat) := Bd.of (by have := pow_pos2 n.toNat; omega) (by have := lt_2_64 h; omega)
theorem half_pow {k : Int} (k1 : 1 ≤ k) : (2 : Int) ^ k.toNat = 2 * 2 ^ (k - 1).toNat := by
  rw [show k.toNat = (k - 1).toNat + 1 by omega, Int.pow_succ]
  exact Int.mul_comm _ _
theorem size_of_small {m : Int} (h0 : 0 ≤ m) (h : m < 2 ^ 100) : m.natAbs < 2 ^ 8000 := (Bd.of h0 h).mono (by decide)
section
variable {P : Program} {w : World} {K : PySem.W.Frag} {mg : Str → Option Value} {base : Heap} {f f1 f2 : Addr} {fd fd1 fd2 : FuncData}
theorem ok_width (T : Top mg) (D__law_next : Df K mg "_law_next" s__law_next ["_law_drawn", "_law_many"] f1 fd1) (D__law_one : Df K mg "_law_one" s__law_one ["_law_drawn", "_law_items"] f2 fd2) (F : Fun K "_law_width" "_law_width" s__law_width f fd) :
    FnOk P w K mg base CX0 3 f fd ["_law_drawn"] sp_width := by
  have G__law_next : FnOk P w K mg base CX0 1 f1 fd1 _ sp_next := ok_next T D__law_next.fn
  have G__law_one : FnOk P w K mg base CX0 2 f2 fd2 _ sp_one := ok_one T D__law_next D__law_one.fn
  refine F.ok sc__law_width (fun vs H Q E h => ?_) (fun cdv A outer s H vs Q E hr h => ?_)
  · obtain ⟨d, r, c, t, rfl, _⟩ := h
    rfl
  · obtain ⟨d, r, c, t, rfl, hD, t1, q⟩ := h
    refine ⟨_, (pss_one (ps_ret (callF D__law_one G__law_one (hr.mono (by omega)) (by rfl) (pa_cons (pv 0) (pa_cons (pe_lst (pa_cons pe_int (pa_cons pe_int (pa_cons pe_int (pa_cons pe_int (pa_cons pe_int (pa_cons pe_int (pa_cons pe_int (pa_cons pe_int (pa_cons pe_int (pa_cons pe_int (pa_cons (pe_op op_add pe_int (callF D__law_next G__law_next (hr.mono (by omega)) (by rfl) (pa_cons (pv 0) (pa_cons pe_int pa_nil)))) pa_nil)))))))))))) pa_nil))))), ?_⟩
    walk_at "rd"
    refine ⟨d, r, c, t, 64, rfl, hD, by omega, by decide, size_of_small (by decide) (by decide), fun H1 v v0 v1 D1 F1 => ?_⟩
    walk_at "rd"
    refine rd_new (by decide : 11 ≤ 1000) fun p H2 n2 => ?_
    walk_at "rd"
    obtain ⟨o1, o2⟩ := D1.off n2.free
    refine ⟨d, r, c, p, t + 1, _, rfl, D1.same n2.same, by omega, o1, o2, n2.here, (by show 0 < 11; decide), (by show 11 ≤ 1000; decide), fun H3 x hx D3 F3 => ?_⟩
    have hv : ∃ y : Int, x = .int y ∧ 1 ≤ y ∧ y ≤ 64 := by
      simp only [List.mem_cons, List.not_mem_nil, or_false] at hx
      rcases hx with h | h | h | h | h | h | h | h | h | h | h <;> exact ⟨_, h, by omega, by omega⟩
    obtain ⟨y, rfl, y0, y1⟩ := hv
    exact q H3 y y0 y1 (by rw [show t + 2 = t + 1 + 1 by omega]; exact D3) (F1.trans ((Fr.of n2.same).trans F3))
end
section
variable {P : Program} {w : World} {K : PySem.W.Frag} {mg : Str → Option Value} {base : Heap} {f f1 f2 : Addr} {fd fd1 fd2 : FuncData}
theorem ok_word (T : Top mg) (D__law_next : Df K mg "_law_next" s__law_next ["_law_drawn", "_law_many"] f1 fd1) (D__law_one : Df K mg "_law_one" s__law_one ["_law_drawn", "_law_items"] f2 fd2) (F : Fun K "_law_word" "_law_word" s__law_word f fd) :
    FnOk P w K mg base CX0 3 f fd ["_law_drawn", "_law_width_here"] sp_word := by
  have G__law_next : FnOk P w K mg base CX0 1 f1 fd1 _ sp_next := ok_next T D__law_next.fn
  have G__law_one : FnOk P w K mg base CX0 2 f2 fd2 _ sp_one := ok_one T D__law_next D__law_one.fn
  refine F.ok sc__law_word (fun vs H Q E h => ?_) (fun cdv A outer s H vs Q E hr h => ?_)
  · obtain ⟨d, r, c, t, n, rfl, _⟩ := h
    rfl
  · obtain ⟨d, r, c, t, n, rfl, hD, t1, n1, n2, q⟩ := h
    refine ⟨_, (pss_cons (ps_set (i := 2) sc__law_word.nd rfl (by first | exact Or.inl rfl | exact Or.inr rfl) (pe_op op_sub (pe_op op_shl pe_int (pv 1)) pe_int))
      (pss_cons (ps_set (i := 3) sc__law_word.nd rfl (by first | exact Or.inl rfl | exact Or.inr rfl) (pe_op op_add (pe_op op_mul (callF D__law_next G__law_next (hr.mono (by omega)) (by rfl) (pa_cons (pv 0) (pa_cons (pe_op op_pow pe_int pe_int) pa_nil))) (pe_op op_pow pe_int pe_int)) (callF D__law_next G__law_next (hr.mono (by omega)) (by rfl) (pa_cons (pv 0) (pa_cons (pe_op op_pow pe_int pe_int) pa_nil)))))
      (pss_cons (ps_set (i := 4) sc__law_word.nd rfl (by first | exact Or.inl rfl | exact Or.inr rfl) (pe_lst (pa_cons pe_int (pa_cons pe_int (pa_cons pe_int (pa_cons (pv 2) (pa_cons (pe_op op_sub (pv 2) pe_int) (pa_cons (pe_op op_fdivW (pv 2) pe_int) (pa_cons (pe_op op_add (pe_op op_fdivW (pv 2) pe_int) pe_int) pa_nil)))))))))
      (pss_one (ps_ret (pe_op op_andM' (callF D__law_one G__law_one (hr.mono (by omega)) (by rfl) (pa_cons (pv 0) (pa_cons (pe_op op_cat (pv 4) (pe_lst (pa_cons (pe_op op_shl pe_int (callF D__law_next G__law_next (hr.mono (by omega)) (by rfl) (pa_cons (pv 0) (pa_cons (pv 1) pa_nil)))) (pa_cons (pv 3) (pa_cons (pv 3) (pa_cons (pv 3) pa_nil)))))) pa_nil))) (pv 2))))))), ?_⟩
    walk_at "rd"
    refine ⟨d, r, c, t, _, rfl, hD, by omega, by decide, size_of_small (by decide) (by decide), fun H1 v v0 v1 D1 F1 => ?_⟩
    walk_at "rd"
    refine ⟨d, r, c, t + 1, _, rfl, D1, by omega, by decide, size_of_small (by decide) (by decide), fun H2 u u0 u1 D2 F2 => ?_⟩
    walk_at "rd"
    refine rd_new (by decide : 7 ≤ 1000) fun p H3 n3 => ?_
    walk_at "rd"
    have top0 : (0 : Int) ≤ 1 * 2 ^ n.toNat - 1 := by have := pow_pos2 n.toNat; omega
    refine ⟨d, r, c, t + 2, n, rfl, (by rw [show t + 2 = t + 1 + 1 by omega]; exact D2.same n3.same), by omega, by omega, size_of_small (by omega) (by omega), fun H4 x x0 x1 D4 F4 => ?_⟩
    walk_at "rd"
    refine rd_new (by show 4 ≤ 1000; decide) fun p5 H5 n5 => ?_
    walk_at "rd"
    obtain ⟨o1, o2⟩ := D2.off n3.free
    refine rd_cat (n5.same _ _ (F4 _ _ o1 o2 n3.here)) n5.here (by show 7 + 4 ≤ 1000; decide) fun p6 H6 n6 => ?_
    walk_at "rd"
    have D6 := (D4.same n5.same).same n6.same
    obtain ⟨o5, o6⟩ := (D4.same n5.same).off n6.free
    refine ⟨d, r, c, p6, t + 2 + 1, _, rfl, D6, by omega, o5, o6, n6.here, (by show 0 < 11; decide), (by show 11 ≤ 1000; decide), fun H7 y hy D7 F7 => ?_⟩
    have hv : ∃ z : Int, y = .int z := by
      simp only [List.cons_append, List.nil_append, List.mem_cons, List.not_mem_nil, or_false] at hy
      rcases hy with h | h | h | h | h | h | h | h | h | h | h <;> exact ⟨_, h⟩
    obtain ⟨z, rfl⟩ := hv
    walk_at "rd"
    refine rd_andM (k := n.toNat) (by omega) ?_
    exact q H7 _ mods.1 mods.2 (by rw [show t + 4 = t + 2 + 1 + 1 by omega]; exact D7) (F1.trans (F2.trans ((Fr.of n3.same).trans (F4.trans ((Fr.of n5.same).trans ((Fr.of n6.same).trans F7))))))
end
/-! ### expressions -/
inductive O1 | not | neg
inductive On | left | right | signed | quo | rem
inductive O2 | add | sub | mul | and | or | xor | less | same
def O1.str : O1 → Str
  | .not => "not" | .neg => "neg"
def On.str : On → Str
  | .left => "left" | .right => "right" | .signed => "signed" | .quo => "quo" | .rem => "rem"
def O2.str : O2 → Str
  | .add => "add" | .sub => "sub" | .mul => "mul" | .and => "and" | .or => "or" | .xor => "xor" | .less => "less" | .same => "same"
def On.ok : On → Int → Prop
  | .left, n => 0 ≤ n ∧ n ≤ 63 | .right, n => 0 ≤ n ∧ n ≤ 63 | .signed, n => 0 ≤ n ∧ n ≤ 63
  | .quo, n => 1 ≤ n ∧ n < 2 ^ 64 | .rem, n => 1 ≤ n ∧ n < 2 ^ 64
inductive Ex
  | name (i : Nat) | num (n : Int) | un (o : O1) (x : Ex) | sh (o : On) (x : Ex) (n : Int) | bin (o : O2) (x y : Ex) | pick (x y z : Ex)
def Ex.Ok : Ex → Prop
  | .name i => i < 4 | .num n => 0 ≤ n ∧ n < 2 ^ 64 | .un _ x => x.Ok | .sh o x n => x.Ok ∧ o.ok n | .bin _ x y => x.Ok ∧ y.Ok | .pick x y z => x.Ok ∧ y.Ok ∧ z.Ok
def Ex.nodes : Ex → Nat
  | .name _ => 1 | .num _ => 1 | .un _ x => 1 + x.nodes | .sh _ x _ => 1 + x.nodes | .bin _ x y => 1 + x.nodes + y.nodes | .pick x y z => 1 + x.nodes + y.nodes + z.nodes
def Ex.depth : Ex → Nat
  | .name _ => 1 | .num _ => 1 | .un _ x => 1 + x.depth | .sh _ x _ => 1 + x.depth | .bin _ x y => 1 + max x.depth y.depth | .pick x y z => 1 + max x.depth (max y.depth z.depth)
theorem Ex.depth_le : ∀ e : Ex, e.depth ≤ e.nodes
  | .name _ => Nat.le_refl _ | .num _ => Nat.le_refl _
  | .un _ x => by have := x.depth_le; simp only [Ex.depth, Ex.nodes]; omega
  | .sh _ x _ => by have := x.depth_le; simp only [Ex.depth, Ex.nodes]; omega
  | .bin _ x y => by have := x.depth_le; have := y.depth_le; simp only [Ex.depth, Ex.nodes]; omega
  | .pick x y z => by have := x.depth_le; have := y.depth_le; have := z.depth_le; simp only [Ex.depth, Ex.nodes]; omega
/-- an expression as it lies in the heap -/
def Rep (H : Hp) : Ex → V → Prop
  | .name i, v => ∃ a, v = .ref a ∧ H a = some (.tup [.str "name", .int (i : Int)])
  | .num n, v => ∃ a, v = .ref a ∧ H a = some (.tup [.str "number", .int n])
  | .un o x, v => ∃ a u, v = .ref a ∧ H a = some (.tup [.str o.str, u]) ∧ Rep H x u
  | .sh o x n, v => ∃ a u, v = .ref a ∧ H a = some (.tup [.str o.str, u, .int n]) ∧ Rep H x u
  | .bin o x y, v => ∃ a u1 u2, v = .ref a ∧ H a = some (.tup [.str o.str, u1, u2]) ∧ Rep H x u1 ∧ Rep H y u2
  | .pick x y z, v => ∃ a u1 u2 u3, v = .ref a ∧ H a = some (.tup [.str "pick", u1, u2, u3]) ∧ Rep H x u1 ∧ Rep H y u2 ∧ Rep H z u3
/-- all tuples are as they were -/
def Tups (H H' : Hp) : Prop := ∀ a xs, H a = some (.tup xs) → H' a = some (.tup xs)
theorem Tups.of {H H' : Hp} (s : Same H H') : Tups H H' := fun a xs h => s a _ h
theorem Tups.trans {H H1 H2 : Hp} (s : Tups H H1) (t : Tups H1 H2) : Tups H H2 := fun a xs h => t a xs (s a xs h)
theorem Tups.fr {H H' : Hp} {d r c : Addr} {t : Int} (D : Dr H d r c t) (f : Fr d r H H') : Tups H H' := fun a xs h => by
  obtain ⟨cells, rests, h1, h2, h3, h4, h5, h6, _⟩ := D
  exact f a _ (ne_of h h4 (by intro z; cases z)) (ne_of h h6 (by intro z; cases z)) h
theorem Rep.mono {H H' : Hp} (s : Tups H H') : ∀ {e : Ex} {v : V}, Rep H e v → Rep H' e v
  | .name _, _, ⟨a, e, h⟩ => ⟨a, e, s _ _ h⟩
  | .num _, _, ⟨a, e, h⟩ => ⟨a, e, s _ _ h⟩
  | .un _ _, _, ⟨a, u, e, h, r⟩ => ⟨a, u, e, s _ _ h, Rep.mono s r⟩
  | .sh _ _ _, _, ⟨a, u, e, h, r⟩ => ⟨a, u, e, s _ _ h, Rep.mono s r⟩
  | .bin _ _ _, _, ⟨a, u, u2, e, h, r, r2⟩ => ⟨a, u, u2, e, s _ _ h, Rep.mono s r, Rep.mono s r2⟩
  | .pick _ _ _, _, ⟨a, u, u2, u3, e, h, r, r2, r3⟩ => ⟨a, u, u2, u3, e, s _ _ h, Rep.mono s r, Rep.mono s r2, Rep.mono s r3⟩
/-- signed value of a word -/
def sgn (w : Nat) (x : Int) : Int := if x < 2 ^ (w - 1) then x else x - 2 ^ w
def On.val (w : Nat) : On → Int → Int → Int
  | .left, x, n => (x * 2 ^ n.toNat) % 2 ^ w
  | .right, x, n => x / 2 ^ n.toNat
  | .signed, x, n => (sgn w x / 2 ^ n.toNat) % 2 ^ w
  | .quo, x, n => x / n
  | .rem, x, n => x % n
def O2.two : O2 → Int → Int → Int
  | .add, x, y => x + y | .sub, x, y => x - y | .mul, x, y => x * y
  | .and, x, y => Builtin.bitAnd x y | .or, x, y => Builtin.bitOr x y | .xor, x, y => Builtin.bitXor x y
  | .less, x, y => if decide (x < y) then 1 else 0
  | .same, x, y => if decide (V.int x = V.int y) then 1 else 0
def O1.val (w : Nat) : O1 → Int → Int
  | .not, x => (-1 - x) % 2 ^ w | .neg, x => (-x) % 2 ^ w
def Ex.val (w : Nat) (env : Nat → Int) : Ex → Int
  | .name i => env i
  | .num n => n % 2 ^ w
  | .un o x => o.val w (x.val w env)
  | .sh o x n => o.val w (x.val w env) n
  | .bin o x y => o.two (x.val w env) (y.val w env) % 2 ^ w
  | .pick x y z => if x.val w env ≠ 0 then y.val w env else z.val w env
/-- a word of a width -/
def Wd (w : Nat) (x : Int) : Prop := 0 ≤ x ∧ x < 2 ^ w
theorem wd_mod {w : Nat} {x : Int} : Wd w (x % 2 ^ w) := mods
theorem ediv_le_self' {x m : Int} (x0 : 0 ≤ x) (m1 : 1 ≤ m) : 0 ≤ x / m ∧ x / m ≤ x := ⟨Int.ediv_nonneg x0 (by omega), Int.ediv_le_self _ x0⟩
theorem Ex.wd {w : Nat} {env : Nat → Int} (he : ∀ i, i < 4 → Wd w (env i)) : ∀ e : Ex, e.Ok → Wd w (e.val w env)
  | .name i, h => he i h
  | .num n, _ => wd_mod
  | .un o x, _ => by cases o <;> exact wd_mod
  | .sh o x n, ⟨hx, hn⟩ => by
    have ih := x.wd he hx
    cases o with
    | left => exact wd_mod
    | right =>
      have := ediv_le_self' ih.1 (m := 2 ^ n.toNat) (by have := pow_pos2 n.toNat; omega)
      exact ⟨this.1, Int.lt_of_le_of_lt this.2 ih.2⟩
    | signed => exact wd_mod
    | quo =>
      have := ediv_le_self' ih.1 hn.1
      exact ⟨this.1, Int.lt_of_le_of_lt this.2 ih.2⟩
    | rem =>
      have hn1 : (1 : Int) ≤ n := hn.1
      refine ⟨Int.emod_nonneg _ (by omega), Int.lt_of_le_of_lt ?_ ih.2⟩
      show x.val w env % n ≤ x.val w env
      rw [Int.emod_def]
      have := Int.mul_nonneg (by omega : 0 ≤ n) (Int.ediv_nonneg ih.1 (by omega : 0 ≤ n))
      omega
  | .bin o x y, _ => wd_mod
  | .pick x y z, ⟨hx, hy, hz⟩ => by
    show Wd w (if x.val w env ≠ 0 then y.val w env else z.val w env)
    split
    · exact y.wd he hy
    · exact z.wd he hz
def sp_bynum : Sp := fun vs H Q _ => ∃ (o : On) (x n w : Int), vs = [.str o.str, .int x, .int n, .int w] ∧ 1 ≤ w ∧ w ≤ 64 ∧ Wd w.toNat x ∧ o.ok n ∧ Q (.int (o.val w.toNat x n)) H
def sp_two : Sp := fun vs H Q _ => ∃ (o : O2) (x y : Int), vs = [.str o.str, .int x, .int y] ∧ Bd 64 x ∧ Bd 64 y ∧ Q (.int (o.two x y)) H
theorem Wd.bd {w : Int} {x : Int} (h : Wd w.toNat x) (hw : w ≤ 64) : Bd 64 x := Bd.of h.1 (Int.lt_of_lt_of_le h.2 (lt_2_64 hw))
theorem Bd.lt64 {x : Int} (h : Bd 64 x) : -(2 ^ 64) < x ∧ x < 2 ^ 64 := by
  unfold Bd at h
  have e : (2 : Nat) ^ 64 = 18446744073709551616 := by decide
  rw [e] at h
  have e2 : (2 : Int) ^ 64 = 18446744073709551616 := by decide
  rw [e2]
  omega
section
variable {P : Program} {w : World} {K : PySem.W.Frag} {mg : Str → Option Value} {base : Heap} {f f1 f2 f3 : Addr} {fd fd1 fd2 fd3 : FuncData}
theorem ok_bynum (T : Top mg) (D_greatest_word : Df K mg "greatest_word" s_greatest_word ["width"] f1 fd1) (D_to_word : Df K mg "to_word" s_to_word ["number", "width"] f2 fd2) (D_signed_value : Df K mg "signed_value" s_signed_value ["word", "width"] f3 fd3)
    (F : Fun K "value_by_number" "value_by_number" s_value_by_number f fd) : FnOk P w K mg base CX0 3 f fd ["operation", "word", "number", "width"] sp_bynum := by
  have G_to_word : FnOk P w K mg base CX0 2 f2 fd2 _ sp_toword := ok_toword T D_greatest_word D_to_word.fn
  have G_signed_value : FnOk P w K mg base CX0 1 f3 fd3 _ sp_signed := ok_signed T D_signed_value.fn
  refine F.ok sc_value_by_number (fun vs H Q E h => ?_) (fun cdv A outer s H vs Q E hr h => ?_)
  · obtain ⟨o, x, n, k, rfl, _⟩ := h
    rfl
  · obtain ⟨o, x, n, k, rfl, k1, k2, hx, hn, q⟩ := h
    refine ⟨_, (pss_cons (ps_if (pt_cmpR op_eq (pv 0) pe_str (nomark _))
       (pss_one (ps_ret (callF D_to_word G_to_word (hr.mono (by omega)) (by rfl) (pa_cons (pe_op op_shl (pv 1) (pv 2)) (pa_cons (pv 3) pa_nil)))))
       pss_nil)
      (pss_cons (ps_if (pt_cmpR op_eq (pv 0) pe_str (nomark _))
       (pss_one (ps_ret (pe_op op_shr (pv 1) (pv 2))))
       pss_nil)
      (pss_cons (ps_if (pt_cmpR op_eq (pv 0) pe_str (nomark _))
       (pss_one (ps_ret (callF D_to_word G_to_word (hr.mono (by omega)) (by rfl) (pa_cons (pe_op op_shr (callF D_signed_value G_signed_value (hr.mono (by omega)) (by rfl) (pa_cons (pv 1) (pa_cons (pv 3) pa_nil))) (pv 2)) (pa_cons (pv 3) pa_nil)))))
       pss_nil)
      (pss_cons (ps_if (pt_cmpR op_eq (pv 0) pe_str (nomark _))
       (pss_one (ps_ret (pe_op op_fdivW (pv 1) (pv 2))))
       pss_nil)
      (pss_one (ps_ret (pe_op op_mod (pv 1) (pv 2)))))))), ?_⟩
    have b := (hx.bd k2).lt64
    have bd := hx.bd k2
    have hn' : On.ok o n := hn
    cases o with
    | left =>
      have h1 : 0 ≤ n ∧ n ≤ 63 := hn
      have cp : CPow x n := ⟨h1.1, by omega, hx.bd k2⟩
      walk_at "go"
      exact ⟨_, k, rfl, k1, k2, q⟩
    | right =>
      have h1 : 0 ≤ n ∧ n ≤ 63 := hn
      have h0 := h1.1
      walk_at "go"
      exact q
    | signed =>
      have h1 : 0 ≤ n ∧ n ≤ 63 := hn
      have h0 := h1.1
      walk_at "go"
      refine ⟨x, k, rfl, k1, k2, hx.1, ?_⟩
      walk_at "go"
      refine ⟨_, k, rfl, k1, k2, ?_⟩
      rw [show (k - 1).toNat = k.toNat - 1 by omega]
      exact q
    | quo =>
      have h1 : 1 ≤ n ∧ n < 2 ^ 64 := hn
      have cd : CDivW x n := wide_div (by omega) (Bd.of (by omega) h1.2) (by decide) (by decide)
      walk_at "go"
      exact q
    | rem =>
      have h1 : 1 ≤ n ∧ n < 2 ^ 64 := hn
      have h0 : 0 < n := by omega
      walk_at "go"
      exact q
theorem ok_two (T : Top mg) (F : Fun K "_number_of_two" "_number_of_two" s__number_of_two f fd) : FnOk P w K mg base CX0 1 f fd ["operation", "x", "y"] sp_two := by
  refine F.ok sc__number_of_two (fun vs H Q E h => ?_) (fun cdv A outer s H vs Q E hr h => ?_)
  · obtain ⟨o, x, y, rfl, _⟩ := h
    rfl
  · obtain ⟨o, x, y, rfl, bx, bY, q⟩ := h
    refine ⟨_, (pss_cons (ps_if (pt_cmpR op_eq (pv 0) pe_str (nomark _))
       (pss_one (ps_ret (pe_op op_add (pv 1) (pv 2))))
       pss_nil)
      (pss_cons (ps_if (pt_cmpR op_eq (pv 0) pe_str (nomark _))
       (pss_one (ps_ret (pe_op op_sub (pv 1) (pv 2))))
       pss_nil)
      (pss_cons (ps_if (pt_cmpR op_eq (pv 0) pe_str (nomark _))
       (pss_one (ps_ret (pe_op op_mul (pv 1) (pv 2))))
       pss_nil)
      (pss_cons (ps_if (pt_cmpR op_eq (pv 0) pe_str (nomark _))
       (pss_one (ps_ret (pe_op op_and (pv 1) (pv 2))))
       pss_nil)
      (pss_cons (ps_if (pt_cmpR op_eq (pv 0) pe_str (nomark _))
       (pss_one (ps_ret (pe_op op_or (pv 1) (pv 2))))
       pss_nil)
      (pss_cons (ps_if (pt_cmpR op_eq (pv 0) pe_str (nomark _))
       (pss_one (ps_ret (pe_op op_xor (pv 1) (pv 2))))
       pss_nil)
      (pss_cons (ps_if (pt_cmpR op_eq (pv 0) pe_str (nomark _))
       (pss_one (ps_ret (pe_callTy int_1 (by rfl) T.z_int (by decide +kernel) (pa_cons (pe_cmpR op_lt (pv 1) (pv 2) (nomark _)) pa_nil))))
       pss_nil)
      (pss_one (ps_ret (pe_callTy int_1 (by rfl) T.z_int (by decide +kernel) (pa_cons (pe_cmpR op_eq (pv 1) (pv 2) (nomark _)) pa_nil))))))))))), ?_⟩
    have b1 := bx.lt64
    have cm : CMul x y := Or.inl b1
    cases o <;> (walk_at "go"; exact q)
end
end Lw

set_option Elab.async false
set_option linter.all false
set_option maxRecDepth 100000
set_option maxHeartbeats 4000000
namespace Lw
open PySem PySem.Spec PyProof.Rows L2 Glay
/-- what is asked of the numbers by the way -/
local macro_rules | `(tactic| walk_at "side") => `(tactic| first
  | rfl
  | decide
  | assumption
  | omega
  | (unfold CMul; omega)
  | (unfold CPowW; exact ⟨by decide, by decide +kernel⟩)
  | exact wide_mul (a := 1400) (b := 1400) (by decide +kernel) (by decide +kernel) (by decide) (by decide) (by decide)
  | exact wide_div (b := 64) (by decide) (by decide) (by decide) (by decide)
  | (unfold CMul; exact Or.inr ⟨by decide, by decide⟩)
  | (unfold CMul; exact Or.inl ⟨by decide, by decide⟩)
  | (unfold CPow; omega)
  | (unfold CPow; refine ⟨by omega, by omega, ?_⟩; omega))
local macro_rules | `(tactic| walk_at "one") => `(tactic| with_reducible first
  | (refine' rd_var ?rdh ?_; (case rdh => with_unfolding_all exact rfl))
  | refine rd_c ?_
  | refine rd_op ?_
  | refine rd_un ?_
  | refine rd_I0 ?_
  | refine rd_I (by walk_at "side") ?_
  | refine rd_U ?_
  | refine rd_seq ?_
  | refine rd_next ?_
  | refine rd_asg ?_
  | refine rd_name ?_
  | refine rd_par ?_
  | refine rd_par2 ?_
  | refine rd_ret ?_
  | refine rd_ifs ?_
  | refine rd_if ?_
  | refine rd_test ?_
  | refine rd_B ?_
  | refine rd_not ?_
  | refine rd_and ?_
  | refine rd_or ?_
  | refine rd_andV ?_
  | refine rd_orV ?_
  | refine rd_notV ?_
  | refine rd_chain ?_
  | refine rd_k ?_
  | refine rd_eq (by with_unfolding_all rfl) ?_
  | refine rd_ne (by with_unfolding_all rfl) ?_
  | refine rd_call ?_
  | refine rd_cb ?_
  | refine rd_nil ?_
  | refine rd_cons ?_
  | refine rd_lst ?_
  | refine rd_gcons ?_
  | refine rd_gnil ?_
  | refine rd_sub ?_
  | (refine' rd_ixL (SqL.of (by assumption)) ?rde ?_; (case rde => with_unfolding_all exact rfl))
  | refine rd_intI ?_
  | refine rd_intB ?_
  | refine rd_abs ?_
  | refine rd_sl ?_
  | refine rd_nopart ?_
  | refine rd_part ?_
  | refine rd_pi ?_
  | refine rd_nt ?_
  | refine rd_nf ?_
  | refine rd_t ?_
  | refine rd_f ?_
  | refine rd_for ?_
  | refine rd_max2 ?_
  | refine rd_izip ?_
  | refine rd_min2 ?_
  | (refine' rd_in (SqT.of (by assumption)) ?rdf ?rda ?_; (case rdf => with_unfolding_all rfl); (case rda => with_unfolding_all rfl))
  | refine rd_lc ?_
  | refine rd_itup ?_
  | refine rd_tyes ?_
  | (refine' rd_ixT (SqT.of (by assumption)) ?rde ?_; (case rde => first | exact at_head | with_unfolding_all exact rfl))
  | refine rd_ilist ?_
  | refine rd_irng ?_
  | refine rd_tup ?_)
local macro_rules | `(tactic| walk_at "rd") => `(tactic| repeat walk_at "one")
/-- one of two ways, by a written text -/
local macro_rules | `(tactic| walk_at "br") => `(tactic| first
  | refine rd_yes (by decide +kernel) ?_
  | refine rd_no (by decide +kernel) ?_
  | refine rd_yesN (by decide +kernel) ?_
  | refine rd_noN (by decide +kernel) ?_
  | refine rd_brT (by decide +kernel) ?_
  | refine rd_brF (by decide +kernel) ?_)
local macro_rules | `(tactic| walk_at "go") => `(tactic| repeat (first | walk_at "one" | walk_at "br"))
/-! ### values of expressions, by the program -/
def Ex.op : Ex → Str
  | .name _ => "name" | .num _ => "number" | .un o _ => o.str | .sh o _ _ => o.str | .bin o _ _ => o.str | .pick _ _ _ => "pick"
def Ex.kids : Ex → List Ex
  | .name _ => [] | .num _ => [] | .un _ x => [x] | .sh _ x _ => [x] | .bin _ x y => [x, y] | .pick x y z => [x, y, z]
def Ex.nums : Ex → List Int
  | .name i => [(i : Int)] | .num n => [n] | .un _ _ => [] | .sh _ _ n => [n] | .bin _ _ _ => [] | .pick _ _ _ => []
inductive Reps (H : Hp) : List Ex → List V → Prop
  | nil : Reps H [] []
  | cons {x : Ex} {u : V} {xs : List Ex} {us : List V} : Rep H x u → Reps H xs us → Reps H (x :: xs) (u :: us)
theorem Reps.mono {H H' : Hp} (s : Tups H H') : ∀ {xs : List Ex} {us : List V}, Reps H xs us → Reps H' xs us
  | _, _, .nil => .nil
  | _, _, .cons a b => .cons (Rep.mono s a) (Reps.mono s b)
theorem Reps.length {H : Hp} : ∀ {xs : List Ex} {us : List V}, Reps H xs us → us.length = xs.length
  | _, _, .nil => rfl
  | _, _, .cons _ b => congrArg (· + 1) b.length
theorem Reps.at {H : Hp} : ∀ {xs : List Ex} {us : List V} {i : Nat} {u : V}, Reps H xs us → us[i]? = some u → ∃ x, xs[i]? = some x ∧ Rep H x u
  | _, _, _, _, .nil, h => by cases h
  | _, _, 0, _, .cons a _, h => by
    cases h
    exact ⟨_, rfl, a⟩
  | _, _, i + 1, _, .cons _ b, h => b.at (i := i) h
/-- as a tuple: the operation, the parts, the number -/
theorem Rep.split {H : Hp} : ∀ {e : Ex} {v : V}, Rep H e v → ∃ a us, v = .ref a ∧ H a = some (.tup (.str e.op :: (us ++ e.nums.map V.int))) ∧ Reps H e.kids us
  | .name _, _, ⟨a, e, h⟩ => ⟨a, [], e, h, .nil⟩
  | .num _, _, ⟨a, e, h⟩ => ⟨a, [], e, h, .nil⟩
  | .un _ _, _, ⟨a, u, e, h, r⟩ => ⟨a, [u], e, h, .cons r .nil⟩
  | .sh _ _ _, _, ⟨a, u, e, h, r⟩ => ⟨a, [u], e, h, .cons r .nil⟩
  | .bin _ _ _, _, ⟨a, u, u2, e, h, r, r2⟩ => ⟨a, [u, u2], e, h, .cons r (.cons r2 .nil)⟩
  | .pick _ _ _, _, ⟨a, u, u2, u3, e, h, r, r2, r3⟩ => ⟨a, [u, u2, u3], e, h, .cons r (.cons r2 (.cons r3 .nil))⟩
/-- the two dicts of the top -/
structure Cnt (K : PySem.W.Frag) (w : World) (mg : Str → Option Value) (aP aN : Addr) : Prop where
  c_PART_COUNTS : mg "PART_COUNTS" = some (.ref aP)
  c_NUMBER_BOUNDS : mg "NUMBER_BOUNDS" = some (.ref aN)
  counts : ∀ e : Ex, KDct K w aP e.op (.int (e.kids.length : Int))
  bounds : ∀ e : Ex, KHas K w aN e.op (!e.nums.isEmpty)
def sp_parts : Sp := fun vs H Q _ => ∃ (e : Ex) (v : V), vs = [v] ∧ Rep H e v ∧ ∀ p H' us, New H p (.tup us) H' → Reps H e.kids us → Q (.ref p) H'
inductive PartsVal (w : Nat) : Str → List Int → Int → Prop
  | un (o : O1) (x : Int) : PartsVal w o.str [x] (o.val w x)
  | bin (o : O2) (x y : Int) (hx : Bd 64 x) (hy : Bd 64 y) : PartsVal w o.str [x, y] (o.two x y % 2 ^ w)
  | pick (x y z : Int) : PartsVal w "pick" [x, y, z] (if x ≠ 0 then y else z)
def sp_byparts : Sp := fun vs H Q _ => ∃ (op : Str) (l : Addr) (xs : List Int) (w r : Int), vs = [.str op, .ref l, .int w] ∧ H l = some (.lst (xs.map V.int)) ∧ PartsVal w.toNat op xs r ∧ 1 ≤ w ∧ w ≤ 64 ∧ Q (.int r) H
/-- the words of an input by their names -/
def env4 (xs : List Int) (i : Nat) : Int := xs.getD i 0
def sp_value (d : Nat) : Sp := fun vs H Q _ => ∃ (e : Ex) (v : V) (w : Int) (p : Addr) (xs : List Int), vs = [v, .int w, .ref p] ∧ Rep H e v ∧ e.Ok ∧ e.depth ≤ d ∧ 1 ≤ w ∧ w ≤ 64 ∧ H p = some (.tup (xs.map V.int)) ∧ xs.length = 4 ∧
  (∀ x ∈ xs, Wd w.toNat x) ∧ ∀ H', Same H H' → Q (.int (e.val w.toNat (env4 xs))) H'
theorem env4_at {xs : List Int} {i : Nat} (h : xs.length = 4) (hi : i < 4) : atI (xs.map V.int) (i : Int) = some (.int (env4 xs i)) := by
  refine atI_nat ?_
  rw [List.getElem?_map]
  unfold env4
  rw [List.getD_eq_getElem?_getD, List.getElem?_eq_getElem (by omega)]
  rfl
theorem env4_wd {w : Nat} {xs : List Int} (h : xs.length = 4) (hw : ∀ x ∈ xs, Wd w x) : ∀ i, i < 4 → Wd w (env4 xs i) := fun i hi => by
  unfold env4
  rw [List.getD_eq_getElem?_getD, List.getElem?_eq_getElem (by omega)]
  exact hw _ (List.getElem_mem _)
theorem op1_ne (o : O1) : ¬ V.str o.str = V.str "name" ∧ ¬ V.str o.str = V.str "number" := by cases o <;> exact ⟨by decide +kernel, by decide +kernel⟩
theorem opn_ne (o : On) : ¬ V.str o.str = V.str "name" ∧ ¬ V.str o.str = V.str "number" := by cases o <;> exact ⟨by decide +kernel, by decide +kernel⟩
theorem op2_ne (o : O2) : ¬ V.str o.str = V.str "name" ∧ ¬ V.str o.str = V.str "number" := by cases o <;> exact ⟨by decide +kernel, by decide +kernel⟩
section
variable {P : Program} {w : World} {K : PySem.W.Frag} {mg : Str → Option Value} {base : Heap} {f f1 f2 f3 f4 f5 f6 f7 aP aN : Addr} {fd fd1 fd2 fd3 fd4 fd5 fd6 fd7 : FuncData}
theorem ok_parts (T : Top mg) (C : Cnt K w mg aP aN) (F : Fun K "parts_of" "parts_of" s_parts_of f fd) : FnOk P w K mg base CX0 1 f fd ["expression"] sp_parts := by
  refine F.ok sc_parts_of (fun vs H Q E h => ?_) (fun cdv A outer s H vs Q E hr h => ?_)
  · obtain ⟨e, v, rfl, _⟩ := h
    rfl
  · obtain ⟨e, v, rfl, hR, q⟩ := h
    refine ⟨_, (pss_one (ps_ret (pe_slice (slt_k (K := K) rfl) (pv 0) (po_some pe_int) (po_some (pe_op op_add pe_int (pe_ix (ixd_k (K := K) (w := w) rfl rfl) (pe_glob (v := .ref _) (by rfl) C.c_PART_COUNTS rfl) (pe_ix (ixt_k (K := K) rfl) (pv 0) pe_int (fun _ _ => rfl)) (fun _ _ => rfl))))))), ?_⟩
    obtain ⟨a, us, rfl, ha, hk⟩ := hR.split
    walk_at "go"
    refine rd_ixD (C.counts e) ?_
    walk_at "go"
    refine rd_slT (SqT.of ha) ?_ fun p H' n => ?_
    · rw [show (1 : Int) = ((1 : Nat) : Int) from rfl, HT.sIx_nat, List.length_cons]
      omega
    · refine q p H' us ?_ hk
      have e1 : cutV (V.str e.op :: (us ++ e.nums.map V.int)) (some 1) (some (1 + (e.kids.length : Int))) = us := by
        unfold cutV
        rw [show (1 : Int) + (e.kids.length : Int) = ((1 + e.kids.length : Nat) : Int) by omega, show (1 : Int) = ((1 : Nat) : Int) from rfl, HT.sIx_nat, HT.sIx_nat, List.length_cons, List.length_append, hk.length]
        rw [show min 1 (e.kids.length + (e.nums.map V.int).length + 1) = 1 by omega, show min (1 + e.kids.length) (e.kids.length + (e.nums.map V.int).length + 1) - 1 = e.kids.length by omega]
        show List.take e.kids.length (us ++ e.nums.map V.int) = us
        rw [← hk.length, List.take_left]
      rw [e1] at n
      exact n
theorem ok_byparts (T : Top mg) (D_greatest_word : Df K mg "greatest_word" s_greatest_word ["width"] f1 fd1) (D_to_word : Df K mg "to_word" s_to_word ["number", "width"] f2 fd2) (D__number_of_two : Df K mg "_number_of_two" s__number_of_two ["operation", "x", "y"] f3 fd3)
    (F : Fun K "value_by_parts" "value_by_parts" s_value_by_parts f fd) : FnOk P w K mg base CX0 3 f fd ["operation", "values", "width"] sp_byparts := by
  have G_to_word : FnOk P w K mg base CX0 2 f2 fd2 _ sp_toword := ok_toword T D_greatest_word D_to_word.fn
  have G__number_of_two : FnOk P w K mg base CX0 1 f3 fd3 _ sp_two := ok_two T D__number_of_two.fn
  refine F.ok sc_value_by_parts (fun vs H Q E h => ?_) (fun cdv A outer s H vs Q E hr h => ?_)
  · obtain ⟨e, v, _, _, _, rfl, _⟩ := h
    rfl
  · obtain ⟨op, l, xs, k, r, rfl, hl, hp, k1, k2, q⟩ := h
    refine ⟨_, (pss_cons (ps_if (pt_cmpR op_eq (pv 0) pe_str (nomark _))
       (pss_one (ps_ret (callF D_to_word G_to_word (hr.mono (by omega)) (by rfl) (pa_cons (pe_op op_sub (pe_un un_neg pe_int) (pe_ix (ixl_k (K := K) rfl) (pv 1) pe_int (fun _ _ => rfl))) (pa_cons (pv 2) pa_nil)))))
       pss_nil)
      (pss_cons (ps_if (pt_cmpR op_eq (pv 0) pe_str (nomark _))
       (pss_one (ps_ret (callF D_to_word G_to_word (hr.mono (by omega)) (by rfl) (pa_cons (pe_un un_neg (pe_ix (ixl_k (K := K) rfl) (pv 1) pe_int (fun _ _ => rfl))) (pa_cons (pv 2) pa_nil)))))
       pss_nil)
      (pss_cons (ps_if (pt_cmpR op_eq (pv 0) pe_str (nomark _))
       (pss_one (ps_ret (pe_ifExp (pt_cmpR op_ne (pe_ix (ixl_k (K := K) rfl) (pv 1) pe_int (fun _ _ => rfl)) pe_int (nomark _)) (pe_ix (ixl_k (K := K) rfl) (pv 1) pe_int (fun _ _ => rfl)) (pe_ix (ixl_k (K := K) rfl) (pv 1) pe_int (fun _ _ => rfl)))))
       pss_nil)
      (pss_one (ps_ret (callF D_to_word G_to_word (hr.mono (by omega)) (by rfl) (pa_cons (callF D__number_of_two G__number_of_two (hr.mono (by omega)) (by rfl) (pa_cons (pv 0) (pa_cons (pe_ix (ixl_k (K := K) rfl) (pv 1) pe_int (fun _ _ => rfl)) (pa_cons (pe_ix (ixl_k (K := K) rfl) (pv 1) pe_int (fun _ _ => rfl)) pa_nil)))) (pa_cons (pv 2) pa_nil)))))))), ?_⟩
    cases hp with
    | un o x =>
      have hl1 : H l = some (.lst [.int x]) := hl
      cases o <;> (walk_at "go"; exact ⟨_, k, rfl, k1, k2, q⟩)
    | bin o x y hx hy =>
      have hl1 : H l = some (.lst [.int x, .int y]) := hl
      have n1 : ¬ V.str o.str = V.str "not" := by cases o <;> decide +kernel
      have n2 : ¬ V.str o.str = V.str "neg" := by cases o <;> decide +kernel
      have n3 : ¬ V.str o.str = V.str "pick" := by cases o <;> decide +kernel
      walk_at "go"
      refine rd_no n1 ?_
      walk_at "go"
      refine rd_no n2 ?_
      walk_at "go"
      refine rd_no n3 ?_
      walk_at "go"
      refine ⟨o, x, y, rfl, hx, hy, ?_⟩
      walk_at "go"
      exact ⟨_, k, rfl, k1, k2, q⟩
    | pick x y z =>
      have hl1 : H l = some (.lst [.int x, .int y, .int z]) := hl
      walk_at "go"
      by_cases hx : x = 0
      · subst hx
        walk_at "go"
        exact q
      · rw [if_pos hx] at q
        refine rd_yesN (fun z => hx (V.int.inj z)) ?_
        walk_at "go"
        exact q
theorem ok_value (T : Top mg) (C : Cnt K w mg aP aN) (D_greatest_word : Df K mg "greatest_word" s_greatest_word ["width"] f1 fd1) (D_to_word : Df K mg "to_word" s_to_word ["number", "width"] f2 fd2) (D_signed_value : Df K mg "signed_value" s_signed_value ["word", "width"] f3 fd3)
    (D__number_of_two : Df K mg "_number_of_two" s__number_of_two ["operation", "x", "y"] f4 fd4) (D_value_by_number : Df K mg "value_by_number" s_value_by_number ["operation", "word", "number", "width"] f5 fd5)
    (D_value_by_parts : Df K mg "value_by_parts" s_value_by_parts ["operation", "values", "width"] f6 fd6) (D_parts_of : Df K mg "parts_of" s_parts_of ["expression"] f7 fd7) (D_value_at : Df K mg "value_at" s_value_at ["expression", "width", "words"] f fd) :
    ∀ n : Nat, FnOk P w K mg base CX0 (n + 4) f fd ["expression", "width", "words"] (sp_value n) := by
  have G_to_word : FnOk P w K mg base CX0 2 f2 fd2 _ sp_toword := ok_toword T D_greatest_word D_to_word.fn
  have G_value_by_number : FnOk P w K mg base CX0 3 f5 fd5 _ sp_bynum := ok_bynum T D_greatest_word D_to_word D_signed_value D_value_by_number.fn
  have G_value_by_parts : FnOk P w K mg base CX0 3 f6 fd6 _ sp_byparts := ok_byparts T D_greatest_word D_to_word D__number_of_two D_value_by_parts.fn
  have G_parts_of : FnOk P w K mg base CX0 1 f7 fd7 _ sp_parts := ok_parts T C D_parts_of.fn
  intro n
  induction n with
  | zero =>
    refine D_value_at.fn.ok sc_value_at (fun vs H Q E h => ?_) (fun cdv A outer s H vs Q E hr h => ?_)
    · obtain ⟨e, v, k, p, xs, rfl, _⟩ := h
      rfl
    · obtain ⟨e, v, k, p, xs, rfl, hR, ok, hd, _⟩ := h
      exact absurd hd (by cases e <;> simp [Ex.depth])
  | succ n ih =>
    have G_value_at : FnOk P w K mg base CX0 (n + 4) f fd ["expression", "width", "words"] (sp_value n) := ih
    refine D_value_at.fn.ok sc_value_at (fun vs H Q E h => ?_) (fun cdv A outer s H vs Q E hr h => ?_)
    · obtain ⟨e, v, k, p, xs, rfl, _⟩ := h
      rfl
    · obtain ⟨e, v, k, p, xs, rfl, hR, ok, hd, k1, k2, hp, hl, hw, q⟩ := h
      refine ⟨_, (pss_cons (ps_set (i := 3) sc_value_at.nd rfl (by first | exact Or.inl rfl | exact Or.inr rfl) (pe_ix (ixt_k (K := K) rfl) (pv 0) pe_int (fun _ _ => rfl)))
      (pss_cons (ps_if (pt_cmpR op_eq (pv 3) pe_str (nomark _))
       (pss_one (ps_ret (pe_ix (ixt_k (K := K) rfl) (pv 2) (pe_ix (ixt_k (K := K) rfl) (pv 0) pe_int (fun _ _ => rfl)) (fun _ _ => rfl))))
       pss_nil)
      (pss_cons (ps_if (pt_cmpR op_eq (pv 3) pe_str (nomark _))
       (pss_one (ps_ret (callF D_to_word G_to_word (hr.mono (by omega)) (by rfl) (pa_cons (pe_ix (ixt_k (K := K) rfl) (pv 0) pe_int (fun _ _ => rfl)) (pa_cons (pv 1) pa_nil)))))
       pss_nil)
      (pss_cons (ps_setLc (i := 4) (own := [("part", 5)]) (g := _) (tt := tYes) (by rfl) sc_value_at.nd rfl rfl (sw_true rfl rfl rfl (by decide +kernel)) (pi_tup (callF D_parts_of G_parts_of (hr.mono (by omega)) (by rfl) (pa_cons (pv 0) pa_nil))) (blkOk_by (own := [("part", 5)]) (N := n_value_at) (sc := defScope s_value_at) (by decide +kernel)) (fun _ _ _ _ _ => (pg_name (i := 5) sc_value_at.nd rfl (by first | exact Or.inl rfl | exact Or.inr rfl))) (fun _ _ _ _ _ => pts_nil) (fun _ _ _ _ _ => (callF D_value_at G_value_at (hr.mono (by omega)) (by rfl) (pa_cons (pv 5) (pa_cons (pv 1) (pa_cons (pv 2) pa_nil))))))
      (pss_cons (ps_if (pt_cmpR (inD_k (K := K) (w := w) rfl rfl) (pv 3) (pe_glob (v := .ref _) (by rfl) C.c_NUMBER_BOUNDS rfl) (by rfl))
       (pss_one (ps_ret (callF D_value_by_number G_value_by_number (hr.mono (by omega)) (by rfl) (pa_cons (pv 3) (pa_cons (pe_ix (ixl_k (K := K) rfl) (pv 4) pe_int (fun _ _ => rfl)) (pa_cons (pe_ix (ixt_k (K := K) rfl) (pv 0) pe_int (fun _ _ => rfl)) (pa_cons (pv 1) pa_nil)))))))
       pss_nil)
      (pss_one (ps_ret (callF D_value_by_parts G_value_by_parts (hr.mono (by omega)) (by rfl) (pa_cons (pv 3) (pa_cons (pv 4) (pa_cons (pv 1) pa_nil))))))))))), ?_⟩
      have hv := env4_wd hl hw
      have comp : ∀ (kids : List Ex) (us : List V) (a p2 : Addr) (op : Str) (H2 : Hp) (Q2 : VK), Same H H2 → H2 p2 = some (.tup us) → Reps H2 kids us → kids.length ≤ 3 → (∀ x ∈ kids, x.Ok ∧ x.depth ≤ n) →
          (∀ D H', New H2 D (.lst ((kids.map fun x => x.val k.toNat (env4 xs)).map V.int)) H' → Q2 (.ref D) H') →
          kItt K (kLc (gName 5) tYes (tCall (sp_value n) [] E0 (tCons (tVar 5) (tCons (tVar 1) (tCons (tVar 2) tNil)))) ([(("part" : Str), 5)].map (·.2)) (List.set (L2.start n_value_at [V.ref a, V.int k, V.ref p]) 3 (some (.str op))) Q2) (.ref p2) H2 := by
        intro kids us a p2 op H2 Q2 s2 h2 rk l3 hk q2
        have lu : us.length = kids.length := rk.length
        refine rd_lcT (xs := us) (by omega) (fun i acc H' => acc = ((kids.take i).map fun x => x.val k.toNat (env4 xs)).map V.int ∧ Same H2 H') (fun i acc H1 h => SqT.of (h.2 _ _ h2)) (SqT.of h2)
          (fun D H1 nw => ⟨rfl, nw.same⟩) (fun D i acc H1 u nD h => ⟨h.1, fun b o hb => by rw [upd_ne (ne_of_none hb nD)]; exact h.2 _ _ hb⟩) (fun D i x H1 acc R N nD hx h hD yes no => ?_) (fun D H' acc nD hD h => ?_)
        · obtain ⟨rfl, s3⟩ := h
          obtain ⟨y, hy, ry⟩ := rk.at hx
          obtain ⟨oky, dy⟩ := hk y (List.mem_of_getElem? hy)
          walk_at "rd"
          refine ⟨rfl, ?_⟩
          walk_at "rd"
          refine ⟨y, x, k, p, xs, rfl, ry.mono (Tups.of s3), oky, dy, k1, k2, s3 _ _ (s2 _ _ hp), hl, hw, fun H4 s4 => ?_⟩
          refine yes _ H4 ⟨?_, s3.trans s4⟩ (s4 _ _ hD)
          rw [List.take_add_one, hy, List.map_append, List.map_append]
          rfl
        · obtain ⟨rfl, s3⟩ := h
          rw [lu, List.take_length] at hD
          exact q2 D H' ⟨nD, hD, s3⟩
      cases e with
      | name i =>
        obtain ⟨a, rfl, ha⟩ := hR
        walk_at "go"
        exact rd_ixT (SqT.of hp) (env4_at hl ok) (q H fun _ _ h => h)
      | num m =>
        obtain ⟨a, rfl, ha⟩ := hR
        walk_at "go"
        exact ⟨m, k, rfl, k1, k2, q H fun _ _ h => h⟩
      | un o x =>
        obtain ⟨a, u, rfl, ha, hx⟩ := hR
        walk_at "go"
        refine rd_no (op1_ne o).1 ?_
        walk_at "go"
        refine rd_no (op1_ne o).2 ?_
        walk_at "go"
        refine ⟨.un o x, .ref a, rfl, ⟨a, u, rfl, ha, hx⟩, fun p2 H2 us n2 hk => ?_⟩
        have okx : x.Ok := ok
        have dx : x.depth ≤ n := by simp only [Ex.depth] at hd; omega
        refine comp [x] us a p2 o.str H2 _ n2.same n2.here (hk.mono (Tups.of n2.same)) (by show 1 ≤ 3; decide) (fun y hy => by rw [List.mem_singleton.mp hy]; exact ⟨okx, dx⟩) fun D H3 n3 => ?_
        walk_at "go"
        refine rd_inD (b := false) (C.bounds (.un o x)) ?_
        walk_at "go"
        refine ⟨_, D, _, k, _, rfl, n3.here, .un o _, k1, k2, ?_⟩
        exact q H3 (n2.same.trans n3.same)
      | sh o x m =>
        obtain ⟨a, u, rfl, ha, hx⟩ := hR
        walk_at "go"
        refine rd_no (opn_ne o).1 ?_
        walk_at "go"
        refine rd_no (opn_ne o).2 ?_
        walk_at "go"
        refine ⟨.sh o x m, .ref a, rfl, ⟨a, u, rfl, ha, hx⟩, fun p2 H2 us n2 hk => ?_⟩
        have okx : x.Ok := ok.1
        have dx : x.depth ≤ n := by simp only [Ex.depth] at hd; omega
        refine comp [x] us a p2 o.str H2 _ n2.same n2.here (hk.mono (Tups.of n2.same)) (by show 1 ≤ 3; decide) (fun y hy => by rw [List.mem_singleton.mp hy]; exact ⟨okx, dx⟩) fun D H3 n3 => ?_
        walk_at "go"
        refine rd_inD (b := true) (C.bounds (.sh o x m)) ?_
        have hD : H3 D = some (.lst [.int (x.val k.toNat (env4 xs))]) := n3.here
        have ha3 := n3.same _ _ (n2.same _ _ ha)
        walk_at "go"
        refine ⟨o, _, m, k, rfl, k1, k2, x.wd hv okx, ok.2, ?_⟩
        exact q H3 (n2.same.trans n3.same)
      | bin o x y =>
        obtain ⟨a, u1, u2, rfl, ha, hx, hy⟩ := hR
        walk_at "go"
        refine rd_no (op2_ne o).1 ?_
        walk_at "go"
        refine rd_no (op2_ne o).2 ?_
        walk_at "go"
        refine ⟨.bin o x y, .ref a, rfl, ⟨a, u1, u2, rfl, ha, hx, hy⟩, fun p2 H2 us n2 hk => ?_⟩
        have okx : x.Ok := ok.1
        have oky : y.Ok := ok.2
        have dx : x.depth ≤ n := by simp only [Ex.depth] at hd; omega
        have dy : y.depth ≤ n := by simp only [Ex.depth] at hd; omega
        refine comp [x, y] us a p2 o.str H2 _ n2.same n2.here (hk.mono (Tups.of n2.same)) (by show 2 ≤ 3; decide) (fun z hz => by
          simp only [List.mem_cons, List.not_mem_nil, or_false] at hz
          rcases hz with rfl | rfl
          · exact ⟨okx, dx⟩
          · exact ⟨oky, dy⟩) fun D H3 n3 => ?_
        walk_at "go"
        refine rd_inD (b := false) (C.bounds (.bin o x y)) ?_
        walk_at "go"
        refine ⟨_, D, _, k, _, rfl, n3.here, .bin o _ _ ((x.wd hv okx).bd k2) ((y.wd hv oky).bd k2), k1, k2, ?_⟩
        exact q H3 (n2.same.trans n3.same)
      | pick x y z =>
        obtain ⟨a, u1, u2, u3, rfl, ha, hx, hy, hz⟩ := hR
        walk_at "go"
        refine ⟨.pick x y z, .ref a, rfl, ⟨a, u1, u2, u3, rfl, ha, hx, hy, hz⟩, fun p2 H2 us n2 hk => ?_⟩
        have okx : x.Ok := ok.1
        have oky : y.Ok := ok.2.1
        have okz : z.Ok := ok.2.2
        have dx : x.depth ≤ n := by simp only [Ex.depth] at hd; omega
        have dy : y.depth ≤ n := by simp only [Ex.depth] at hd; omega
        have dz : z.depth ≤ n := by simp only [Ex.depth] at hd; omega
        refine comp [x, y, z] us a p2 "pick" H2 _ n2.same n2.here (hk.mono (Tups.of n2.same)) (by show 3 ≤ 3; decide) (fun t ht => by
          simp only [List.mem_cons, List.not_mem_nil, or_false] at ht
          rcases ht with rfl | rfl | rfl
          · exact ⟨okx, dx⟩
          · exact ⟨oky, dy⟩
          · exact ⟨okz, dz⟩) fun D H3 n3 => ?_
        walk_at "go"
        refine rd_inD (b := false) (C.bounds (.pick x y z)) ?_
        walk_at "go"
        refine ⟨_, D, _, k, _, rfl, n3.here, .pick _ _ _, k1, k2, ?_⟩
        exact q H3 (n2.same.trans n3.same)
end
end Lw

set_option Elab.async false
set_option linter.all false
set_option maxRecDepth 100000
set_option maxHeartbeats 4000000
namespace Lw
open PySem PySem.Spec PyProof.Rows L2 Glay
/-- what is asked of the numbers by the way -/
local macro_rules | `(tactic| walk_at "side") => `(tactic| first
  | rfl
  | decide
  | assumption
  | omega
  | (unfold CMul; omega)
  | (unfold CPowW; exact ⟨by decide, by decide +kernel⟩)
  | exact wide_mul (a := 1400) (b := 1400) (by decide +kernel) (by decide +kernel) (by decide) (by decide) (by decide)
  | exact wide_div (b := 64) (by decide) (by decide) (by decide) (by decide)
  | (unfold CMul; exact Or.inr ⟨by decide, by decide⟩)
  | (unfold CMul; exact Or.inl ⟨by decide, by decide⟩)
  | (unfold CPow; omega)
  | (unfold CPow; refine ⟨by omega, by omega, ?_⟩; omega))
local macro_rules | `(tactic| walk_at "one") => `(tactic| with_reducible first
  | (refine' rd_var ?rdh ?_; (case rdh => with_unfolding_all exact rfl))
  | refine rd_c ?_
  | refine rd_op ?_
  | refine rd_un ?_
  | refine rd_I0 ?_
  | refine rd_I (by walk_at "side") ?_
  | refine rd_U ?_
  | refine rd_seq ?_
  | refine rd_next ?_
  | refine rd_asg ?_
  | refine rd_name ?_
  | refine rd_par ?_
  | refine rd_par2 ?_
  | refine rd_ret ?_
  | refine rd_ifs ?_
  | refine rd_if ?_
  | refine rd_test ?_
  | refine rd_B ?_
  | refine rd_not ?_
  | refine rd_and ?_
  | refine rd_or ?_
  | refine rd_andV ?_
  | refine rd_orV ?_
  | refine rd_notV ?_
  | refine rd_chain ?_
  | refine rd_k ?_
  | refine rd_eq (by with_unfolding_all rfl) ?_
  | refine rd_ne (by with_unfolding_all rfl) ?_
  | refine rd_call ?_
  | refine rd_cb ?_
  | refine rd_nil ?_
  | refine rd_cons ?_
  | refine rd_lst ?_
  | refine rd_gcons ?_
  | refine rd_gnil ?_
  | refine rd_sub ?_
  | (refine' rd_ixL (SqL.of (by assumption)) ?rde ?_; (case rde => with_unfolding_all exact rfl))
  | refine rd_intI ?_
  | refine rd_intB ?_
  | refine rd_abs ?_
  | refine rd_sl ?_
  | refine rd_nopart ?_
  | refine rd_part ?_
  | refine rd_pi ?_
  | refine rd_nt ?_
  | refine rd_nf ?_
  | refine rd_t ?_
  | refine rd_f ?_
  | refine rd_for ?_
  | refine rd_max2 ?_
  | refine rd_izip ?_
  | refine rd_min2 ?_
  | (refine' rd_in (SqT.of (by assumption)) ?rdf ?rda ?_; (case rdf => with_unfolding_all rfl); (case rda => with_unfolding_all rfl))
  | refine rd_lc ?_
  | refine rd_itup ?_
  | refine rd_tyes ?_
  | (refine' rd_ixT (SqT.of (by assumption)) ?rde ?_; (case rde => first | exact at_head | with_unfolding_all exact rfl))
  | refine rd_ilist ?_
  | refine rd_irng ?_
  | refine rd_tup ?_)
local macro_rules | `(tactic| walk_at "rd") => `(tactic| repeat walk_at "one")
/-- one of two ways, by a written text -/
local macro_rules | `(tactic| walk_at "br") => `(tactic| first
  | refine rd_yes (by decide +kernel) ?_
  | refine rd_no (by decide +kernel) ?_
  | refine rd_yesN (by decide +kernel) ?_
  | refine rd_noN (by decide +kernel) ?_
  | refine rd_brT (by decide +kernel) ?_
  | refine rd_brF (by decide +kernel) ?_)
local macro_rules | `(tactic| walk_at "go") => `(tactic| repeat (first | walk_at "one" | walk_at "br"))
/-! ### drawn inputs and expressions -/
inductive Op | u (o : O1) | s (o : On) | b (o : O2) | p
def Op.str : Op → Str
  | .u o => o.str | .s o => o.str | .b o => o.str | .p => "pick"
def Op.arity : Op → Nat
  | .u _ => 1 | .s _ => 1 | .b _ => 2 | .p => 3
def Ex.Of (ks : List Op) : Ex → Prop
  | .name _ => True | .num _ => True
  | .un o x => Op.u o ∈ ks ∧ x.Of ks | .sh o x _ => Op.s o ∈ ks ∧ x.Of ks | .bin o x y => Op.b o ∈ ks ∧ x.Of ks ∧ y.Of ks | .pick x y z => Op.p ∈ ks ∧ x.Of ks ∧ y.Of ks ∧ z.Of ks
theorem Ex.nodes_pos : ∀ e : Ex, 1 ≤ e.nodes := fun e => by cases e <;> simp only [Ex.nodes] <;> omega
def sp_input : Sp := fun vs H Q _ => ∃ (d r c : Addr) (t n : Int), vs = [.ref d, .int n] ∧ Dr H d r c t ∧ t ≤ 800000 ∧ 1 ≤ n ∧ n ≤ 64 ∧
  ∀ (H' : Hp) (p : Addr) (xs : List Int), H' p = some (.tup (xs.map V.int)) → xs.length = 4 → (∀ x ∈ xs, Wd n.toNat x) → Dr H' d r c (t + 16) → Fr d r H H' → Q (.ref p) H'
def sp_number : Sp := fun vs H Q _ => ∃ (d r c : Addr) (t : Int), vs = [.ref d] ∧ Dr H d r c t ∧ t ≤ 990000 ∧ ∀ H' v, 0 ≤ v → v < 2 ^ 64 → Dr H' d r c (t + 3) → Fr d r H H' → Q (.int v) H'
def sp_leaf : Sp := fun vs H Q _ => ∃ (d r c : Addr) (t : Int), vs = [.ref d] ∧ Dr H d r c t ∧ t ≤ 900000 ∧ ∀ H' v e t', Rep H' e v → e.Ok → e.nodes = 1 → (∀ ks, e.Of ks) → t' ≤ t + 4 → Dr H' d r c t' → Fr d r H H' → Q v H'
def sp_counted : Sp := fun vs H Q _ => ∃ o : Op, vs = [.str o.str] ∧ ∀ p H' b, Same H H' → H' p = some (.tup [.int (o.arity : Int), .bl b]) → Q (.ref p) H'
def sp_nodes (n : Nat) : Sp := fun vs H Q _ => ∃ (e : Ex) (v : V), vs = [v] ∧ Rep H e v ∧ e.depth ≤ n ∧ ∀ H', Same H H' → Q (.int (e.nodes : Int)) H'
section
variable {P : Program} {w : World} {K : PySem.W.Frag} {mg : Str → Option Value} {base : Heap} {f f1 f2 f3 f4 f5 f6 f7 : Addr} {fd fd1 fd2 fd3 fd4 fd5 fd6 fd7 : FuncData}
theorem ok_input (T : Top mg) (D__law_next : Df K mg "_law_next" s__law_next ["_law_drawn", "_law_many"] f1 fd1) (D__law_one : Df K mg "_law_one" s__law_one ["_law_drawn", "_law_items"] f2 fd2) (D__law_word : Df K mg "_law_word" s__law_word ["_law_drawn", "_law_width_here"] f3 fd3)
    (F : Fun K "_law_input" "_law_input" s__law_input f fd) : FnOk P w K mg base CX0 4 f fd ["_law_drawn", "_law_width_here"] sp_input := by
  have G__law_word : FnOk P w K mg base CX0 3 f3 fd3 _ sp_word := ok_word T D__law_next D__law_one D__law_word.fn
  refine F.ok sc__law_input (fun vs H Q E h => ?_) (fun cdv A outer s H vs Q E hr h => ?_)
  · obtain ⟨d, r, c, t, n, rfl, _⟩ := h
    rfl
  · obtain ⟨d, r, c, t, n, rfl, hD, t1, n1, n2, q⟩ := h
    refine ⟨_, (pss_one (ps_ret (pe_callTy (tuple_k (K := K) rfl) (by rfl) T.z_tuple (by decide +kernel) (pa_cons (pe_lc (own := [("_law_k", 2)]) (g := _) (tt := tYes) (by rfl) sc__law_input.nd (pi_range1 (by rfl) T.z_range (pa_cons pe_int pa_nil)) (blkOk_by (own := [("_law_k", 2)]) (N := n__law_input) (sc := defScope s__law_input) (by decide +kernel)) (fun _ _ _ _ _ => (pg_name (i := 2) sc__law_input.nd rfl (by first | exact Or.inl rfl | exact Or.inr rfl))) (fun _ _ _ _ _ => pts_nil) (fun _ _ _ _ _ => (callF D__law_word G__law_word (hr.mono (by omega)) (by rfl) (pa_cons (pv 0) (pa_cons (pv 1) pa_nil))))) pa_nil)))), ?_⟩
    walk_at "rd"
    refine rd_lcN (m := 4) (by decide) (fun i acc H' => ∃ ys : List Int, acc = ys.map V.int ∧ ys.length = i ∧ (∀ y ∈ ys, Wd n.toNat y) ∧ Dr H' d r c (t + ((4 * i : Nat) : Int)) ∧ Fr d r H H')
      (fun D H1 nw => ⟨[], rfl, rfl, (fun _ h => nomatch h), by rw [show t + ((4 * 0 : Nat) : Int) = t by omega]; exact hD.same nw.same, Fr.of nw.same⟩)
      (fun D i acc H1 u nD ⟨ys, a, b, c', dd, ff⟩ => ⟨ys, a, b, c', dd.upd (hD.off nD).1 (hD.off nD).2 (hD.offc nD), ff.upd nD⟩)
      (fun D i H1 acc R N nD hi ⟨ys, a, b, c', dd, ff⟩ hacc yes no => ?_) (fun D H1 acc nD hacc ⟨ys, a, b, c', dd, ff⟩ => ?_)
    · walk_at "rd"
      refine ⟨rfl, ?_⟩
      walk_at "rd"
      refine ⟨d, r, c, _, n, rfl, dd, by omega, n1, n2, fun H2 v v0 v1 D2 F2 => ?_⟩
      refine yes _ H2 ⟨ys ++ [v], ?_, ?_, ?_, ?_, ff.trans F2⟩ (F2 _ _ (hD.off nD).1 (hD.off nD).2 hacc)
      · rw [a, List.map_append]
        rfl
      · rw [List.length_append, b]
        rfl
      · intro y hy
        rcases List.mem_append.mp hy with h | h
        · exact c' y h
        · rw [List.mem_singleton.mp h]
          exact ⟨v0, v1⟩
      · rw [show t + ((4 * (i + 1) : Nat) : Int) = t + ((4 * i : Nat) : Int) + 4 by omega]
        exact D2
    · walk_at "rd"
      refine rd_tupL (SqL.of hacc) fun p H2 n2' => ?_
      rw [a] at n2'
      exact q H2 p ys n2'.here b c' (by rw [show t + 16 = t + ((4 * 4 : Nat) : Int) by omega]; exact dd.same n2'.same) (ff.trans (Fr.of n2'.same))
theorem ok_number (T : Top mg) (D__law_next : Df K mg "_law_next" s__law_next ["_law_drawn", "_law_many"] f1 fd1) (D__law_one : Df K mg "_law_one" s__law_one ["_law_drawn", "_law_items"] f2 fd2)
    (F : Fun K "_law_number" "_law_number" s__law_number f fd) : FnOk P w K mg base CX0 3 f fd ["_law_drawn"] sp_number := by
  have G__law_next : FnOk P w K mg base CX0 1 f1 fd1 _ sp_next := ok_next T D__law_next.fn
  have G__law_one : FnOk P w K mg base CX0 2 f2 fd2 _ sp_one := ok_one T D__law_next D__law_one.fn
  refine F.ok sc__law_number (fun vs H Q E h => ?_) (fun cdv A outer s H vs Q E hr h => ?_)
  · obtain ⟨d, r, c, t, rfl, _⟩ := h
    rfl
  · obtain ⟨d, r, c, t, rfl, hD, t1, q⟩ := h
    refine ⟨_, (pss_cons (ps_set (i := 1) sc__law_number.nd rfl (by first | exact Or.inl rfl | exact Or.inr rfl) (pe_lst (pa_cons pe_int (pa_cons pe_int (pa_cons pe_int (pa_cons pe_int (pa_cons pe_int (pa_cons pe_int (pa_cons pe_int (pa_cons (pe_op op_pow pe_int pe_int) (pa_cons (pe_op op_sub (pe_op op_shl pe_int pe_int) pe_int) (pa_cons (callF D__law_next G__law_next (hr.mono (by omega)) (by rfl) (pa_cons (pv 0) (pa_cons (pe_op op_pow pe_int pe_int) pa_nil))) (pa_cons (callF D__law_next G__law_next (hr.mono (by omega)) (by rfl) (pa_cons (pv 0) (pa_cons pe_int pa_nil))) pa_nil)))))))))))))
      (pss_one (ps_ret (callF D__law_one G__law_one (hr.mono (by omega)) (by rfl) (pa_cons (pv 0) (pa_cons (pv 1) pa_nil)))))), ?_⟩
    walk_at "rd"
    refine ⟨d, r, c, t, _, rfl, hD, by omega, by decide, size_of_small (by decide) (by decide), fun H1 v v0 v1 D1 F1 => ?_⟩
    walk_at "rd"
    refine ⟨d, r, c, t + 1, _, rfl, D1, by omega, by decide, size_of_small (by decide) (by decide), fun H2 u u0 u1 D2 F2 => ?_⟩
    walk_at "rd"
    refine rd_new (by show 11 ≤ 1000; decide) fun p H3 n3 => ?_
    walk_at "rd"
    obtain ⟨o1, o2⟩ := D2.off n3.free
    refine ⟨d, r, c, p, t + 1 + 1, _, rfl, D2.same n3.same, by omega, o1, o2, n3.here, (by show 0 < 11; decide), (by show 11 ≤ 1000; decide), fun H4 x hx D4 F4 => ?_⟩
    have hv : ∃ z : Int, x = .int z ∧ 0 ≤ z ∧ z < 2 ^ 64 := by
      have e15 : (10 : Int) ^ (15 : Int).toNat < 2 ^ 64 := by decide
      simp only [List.mem_cons, List.not_mem_nil, or_false] at hx
      rcases hx with h | h | h | h | h | h | h | h | h | h | h
      · exact ⟨_, h, by decide, by decide⟩
      · exact ⟨_, h, by decide, by decide⟩
      · exact ⟨_, h, by decide, by decide⟩
      · exact ⟨_, h, by decide, by decide⟩
      · exact ⟨_, h, by decide, by decide⟩
      · exact ⟨_, h, by decide, by decide⟩
      · exact ⟨_, h, by decide, by decide⟩
      · exact ⟨_, h, by decide, by decide⟩
      · exact ⟨_, h, by decide, by decide⟩
      · exact ⟨_, h, v0, by omega⟩
      · exact ⟨_, h, u0, by omega⟩
    obtain ⟨z, rfl, z0, z1⟩ := hv
    exact q H4 z z0 z1 (by rw [show t + 3 = t + 1 + 1 + 1 by omega]; exact D4) (F1.trans (F2.trans ((Fr.of n3.same).trans F4)))
theorem ok_leaf (T : Top mg) (D__law_next : Df K mg "_law_next" s__law_next ["_law_drawn", "_law_many"] f1 fd1) (D__law_one : Df K mg "_law_one" s__law_one ["_law_drawn", "_law_items"] f2 fd2) (D__law_number : Df K mg "_law_number" s__law_number ["_law_drawn"] f3 fd3)
    (F : Fun K "_law_leaf" "_law_leaf" s__law_leaf f fd) : FnOk P w K mg base CX0 4 f fd ["_law_drawn"] sp_leaf := by
  have G__law_next : FnOk P w K mg base CX0 1 f1 fd1 _ sp_next := ok_next T D__law_next.fn
  have G__law_number : FnOk P w K mg base CX0 3 f3 fd3 _ sp_number := ok_number T D__law_next D__law_one D__law_number.fn
  refine F.ok sc__law_leaf (fun vs H Q E h => ?_) (fun cdv A outer s H vs Q E hr h => ?_)
  · obtain ⟨d, r, c, t, rfl, _⟩ := h
    rfl
  · obtain ⟨d, r, c, t, rfl, hD, t1, q⟩ := h
    refine ⟨_, (pss_cons (ps_if (pt_cmpR op_eq (callF D__law_next G__law_next (hr.mono (by omega)) (by rfl) (pa_cons (pv 0) (pa_cons pe_int pa_nil))) pe_int (nomark _))
       (pss_one (ps_ret (pe_tup (pa_cons pe_str (pa_cons (callF D__law_number G__law_number (hr.mono (by omega)) (by rfl) (pa_cons (pv 0) pa_nil)) pa_nil)))))
       pss_nil)
      (pss_one (ps_ret (pe_tup (pa_cons pe_str (pa_cons (callF D__law_next G__law_next (hr.mono (by omega)) (by rfl) (pa_cons (pv 0) (pa_cons pe_int pa_nil))) pa_nil)))))), ?_⟩
    walk_at "rd"
    refine ⟨d, r, c, t, _, rfl, hD, by omega, by decide, size_of_small (by decide) (by decide), fun H1 v v0 v1 D1 F1 => ?_⟩
    walk_at "rd"
    refine rd_dec (fun e => ?_) fun e => ?_
    · walk_at "rd"
      refine ⟨d, r, c, t + 1, rfl, D1, by omega, fun H2 u u0 u1 D2 F2 => ?_⟩
      walk_at "rd"
      refine rd_newT (by show 2 ≤ 1000; decide) fun p H3 n3 => ?_
      exact q H3 (.ref p) (.num u) (t + 1 + 3) ⟨p, rfl, n3.here⟩ ⟨u0, u1⟩ rfl (fun _ => trivial) (by omega) (D2.same n3.same) (F1.trans (F2.trans (Fr.of n3.same)))
    · walk_at "rd"
      refine ⟨d, r, c, t + 1, _, rfl, D1, by omega, by decide, size_of_small (by decide) (by decide), fun H2 u u0 u1 D2 F2 => ?_⟩
      walk_at "rd"
      refine rd_newT (by show 2 ≤ 1000; decide) fun p H3 n3 => ?_
      have eu : u = ((u.toNat : Nat) : Int) := by omega
      rw [eu] at n3
      exact q H3 (.ref p) (.name u.toNat) (t + 1 + 1) ⟨p, rfl, n3.here⟩ (by show u.toNat < 4; omega) rfl (fun _ => trivial) (by omega) (D2.same n3.same) (F1.trans (F2.trans (Fr.of n3.same)))
theorem ok_counted (T : Top mg) (F : Fun K "_law_counted" "_law_counted" s__law_counted f fd) : FnOk P w K mg base CX0 1 f fd ["_law_operation"] sp_counted := by
  refine F.ok sc__law_counted (fun vs H Q E h => ?_) (fun cdv A outer s H vs Q E hr h => ?_)
  · obtain ⟨o, rfl, _⟩ := h
    rfl
  · obtain ⟨o, rfl, q⟩ := h
    refine ⟨_, (pss_cons (ps_if (pt_cmpR (ins_k (K := K) rfl) (pv 0) (pe_tup (pa_cons pe_str (pa_cons pe_str pa_nil))) (by rfl))
       (pss_one (ps_ret (pe_tup (pa_cons pe_int (pa_cons pe_bl pa_nil)))))
       pss_nil)
      (pss_cons (ps_if (pt_cmpR (ins_k (K := K) rfl) (pv 0) (pe_tup (pa_cons pe_str (pa_cons pe_str (pa_cons pe_str (pa_cons pe_str (pa_cons pe_str pa_nil)))))) (by rfl))
       (pss_one (ps_ret (pe_tup (pa_cons pe_int (pa_cons pe_bl pa_nil)))))
       pss_nil)
      (pss_cons (ps_if (pt_cmpR (ins_k (K := K) rfl) (pv 0) (pe_tup (pa_cons pe_str (pa_cons pe_str pa_nil))) (by rfl))
       (pss_one (ps_ret (pe_tup (pa_cons pe_int (pa_cons pe_bl pa_nil)))))
       pss_nil)
      (pss_cons (ps_if (pt_cmpR op_eq (pv 0) pe_str (nomark _))
       (pss_one (ps_ret (pe_tup (pa_cons pe_int (pa_cons pe_bl pa_nil)))))
       pss_nil)
      (pss_cons (ps_if (pt_cmpR (ins_k (K := K) rfl) (pv 0) (pe_tup (pa_cons pe_str (pa_cons pe_str (pa_cons pe_str (pa_cons pe_str (pa_cons pe_str (pa_cons pe_str (pa_cons pe_str (pa_cons pe_str pa_nil))))))))) (by rfl))
       (pss_one (ps_ret (pe_tup (pa_cons pe_int (pa_cons pe_bl pa_nil)))))
       pss_nil)
      (pss_one (ps_ret pe_non))))))), ?_⟩
    walk_at "go"
    refine rd_newT (by show 2 ≤ 1000; decide) fun p1 H1 n1 => ?_
    have h1 := n1.here
    cases o with
    | u o =>
      cases o <;> (
        walk_at "go"
        refine rd_newT (by show 5 ≤ 1000; decide) fun p2 H2 n2 => ?_
        have h2 := n2.here
        walk_at "go"
        refine rd_newT (by show 2 ≤ 1000; decide) fun p3 H3 n3 => ?_
        have h3 := n3.here
        walk_at "go"
        refine rd_newT (by show 2 ≤ 1000; decide) fun p4 H4 n4 => ?_
        exact q p4 H4 _ (n1.same.trans (n2.same.trans (n3.same.trans n4.same))) n4.here)
    | s o =>
      cases o <;> (
        walk_at "go"
        refine rd_newT (by show 5 ≤ 1000; decide) fun p2 H2 n2 => ?_
        have h2 := n2.here
        walk_at "go"
        refine rd_newT (by show 2 ≤ 1000; decide) fun p4 H4 n4 => ?_
        exact q p4 H4 _ (n1.same.trans (n2.same.trans n4.same)) n4.here)
    | b o =>
      cases o <;> (
        walk_at "go"
        refine rd_newT (by show 5 ≤ 1000; decide) fun p2 H2 n2 => ?_
        have h2 := n2.here
        walk_at "go"
        refine rd_newT (by show 2 ≤ 1000; decide) fun p3 H3 n3 => ?_
        have h3 := n3.here
        walk_at "go"
        refine rd_newT (by show 8 ≤ 1000; decide) fun p4 H4 n4 => ?_
        have h4 := n4.here
        walk_at "go"
        refine rd_newT (by show 2 ≤ 1000; decide) fun p5 H5 n5 => ?_
        exact q p5 H5 _ (n1.same.trans (n2.same.trans (n3.same.trans (n4.same.trans n5.same)))) n5.here)
    | p =>
      walk_at "go"
      refine rd_newT (by show 5 ≤ 1000; decide) fun p2 H2 n2 => ?_
      have h2 := n2.here
      walk_at "go"
      refine rd_newT (by show 2 ≤ 1000; decide) fun p3 H3 n3 => ?_
      have h3 := n3.here
      walk_at "go"
      refine rd_newT (by show 2 ≤ 1000; decide) fun p4 H4 n4 => ?_
      exact q p4 H4 _ (n1.same.trans (n2.same.trans (n3.same.trans n4.same))) n4.here
theorem nodes_sum : ∀ e : Ex, (e.nodes : Int) = 1 + (e.kids.map fun x => (x.nodes : Int)).sum := by
  intro e
  cases e <;> simp only [Ex.nodes, Ex.kids, List.map_cons, List.map_nil, List.sum_cons, List.sum_nil] <;> omega
theorem Rep.ref {H : Hp} {e : Ex} {v : V} (h : Rep H e v) : ∃ a xs, v = .ref a ∧ H a = some (.tup xs) := by
  obtain ⟨a, us, e1, e2, _⟩ := h.split
  exact ⟨a, _, e1, e2⟩
theorem ok_nodes (T : Top mg) (D__law_nodes : Df K mg "_law_nodes" s__law_nodes ["_law_expression"] f fd) : ∀ n : Nat, FnOk P w K mg base CX0 (n + 1) f fd ["_law_expression"] (sp_nodes n) := by
  intro n
  induction n with
  | zero =>
    refine D__law_nodes.fn.ok sc__law_nodes (fun vs H Q E h => ?_) (fun cdv A outer s H vs Q E hr h => ?_)
    · obtain ⟨e, v, rfl, _⟩ := h
      rfl
    · obtain ⟨e, v, rfl, hR, hd, _⟩ := h
      exact absurd hd (by cases e <;> simp [Ex.depth])
  | succ n ih =>
    have G__law_nodes : FnOk P w K mg base CX0 (n + 1) f fd ["_law_expression"] (sp_nodes n) := ih
    refine D__law_nodes.fn.ok sc__law_nodes (fun vs H Q E h => ?_) (fun cdv A outer s H vs Q E hr h => ?_)
    · obtain ⟨e, v, rfl, _⟩ := h
      rfl
    · obtain ⟨e, v, rfl, hR, hd, q⟩ := h
      refine ⟨_, (pss_one (ps_ret (pe_op op_add pe_int (pe_callB (sum_k (K := K) rfl rfl) (by rfl) T.z_sum (by decide +kernel) (pa_cons (pe_lc (own := [("_law_part", 1)]) (g := _) (by rfl) sc__law_nodes.nd (pi_tup (pe_slice (slt_k (K := K) rfl) (pv 0) (po_some pe_int) po_none)) (blkOk_by (own := [("_law_part", 1)]) (N := n__law_nodes) (sc := defScope s__law_nodes) (by decide +kernel)) (fun _ _ _ _ _ => (pg_name (i := 1) sc__law_nodes.nd rfl (by first | exact Or.inl rfl | exact Or.inr rfl))) (fun _ _ _ _ _ => (pts_one (pt_val (pe_callB (isi_k (K := K) rfl) (by rfl) T.z_isinstance (by decide +kernel) (pa_cons (pv 1) (pa_cons (pe_bltn (v := .ty "tuple") (by rfl) T.z_tuple (by decide +kernel) rfl) pa_nil)))))) (fun _ _ _ _ _ => (callF D__law_nodes G__law_nodes (hr.mono (by omega)) (by rfl) (pa_cons (pv 1) pa_nil)))) pa_nil))))), ?_⟩
      obtain ⟨a, us, rfl, ha, hk⟩ := hR.split
      have kd : ∀ x ∈ e.kids, x.depth ≤ n := by
        intro x hx
        cases e <;> simp only [Ex.kids, List.mem_cons, List.not_mem_nil, or_false] at hx <;> simp only [Ex.depth] at hd
        · subst hx; omega
        · subst hx; omega
        · rcases hx with rfl | rfl <;> omega
        · rcases hx with rfl | rfl | rfl <;> omega
      have k3 : e.kids.length ≤ 3 := by cases e <;> simp [Ex.kids]
      have m3 : e.nums.length ≤ 1 := by cases e <;> simp [Ex.nums]
      have lu := hk.length
      walk_at "go"
      refine rd_slT (SqT.of ha) ?_ fun p H1 n1 => ?_
      · rw [show (1 : Int) = ((1 : Nat) : Int) from rfl, HT.sIx_nat, List.length_cons]
        omega
      · have e1 : cutV (V.str e.op :: (us ++ e.nums.map V.int)) (some 1) none = us ++ e.nums.map V.int := by
          unfold cutV
          rw [show (1 : Int) = ((1 : Nat) : Int) from rfl, HT.sIx_nat, HT.sIx_none, List.length_cons]
          rw [show min 1 ((us ++ e.nums.map V.int).length + 1) = 1 by omega]
          show List.take ((us ++ e.nums.map V.int).length + 1 - 1) (us ++ e.nums.map V.int) = us ++ e.nums.map V.int
          rw [Nat.add_sub_cancel, List.take_length]
        rw [e1] at n1
        have hk1 := hk.mono (Tups.of n1.same)
        refine rd_lcT (xs := us ++ e.nums.map V.int) (by rw [List.length_append, List.length_map]; omega) (fun i acc H' => acc = ((e.kids.take i).map fun x => (x.nodes : Int)).map V.int ∧ Same H1 H') (fun i acc H' h => SqT.of (h.2 _ _ n1.here)) (SqT.of n1.here)
          (fun D H' nw => ⟨rfl, nw.same⟩) (fun D i acc H' u nD h => ⟨h.1, fun b o hb => by rw [upd_ne (ne_of_none hb nD)]; exact h.2 _ _ hb⟩) (fun D i x H' acc R N nD hx h hD yes no => ?_) (fun D H' acc nD hD h => ?_)
        · obtain ⟨rfl, s3⟩ := h
          walk_at "go"
          refine ⟨rfl, ?_⟩
          by_cases hi : i < us.length
          · rw [List.getElem?_append_left hi] at hx
            obtain ⟨y, hy, ry⟩ := hk1.at hx
            have ry' := ry.mono (Tups.of s3)
            obtain ⟨b, bs, rfl, hb⟩ := ry'.ref
            walk_at "go"
            refine rd_isiT hb ?_
            walk_at "go"
            refine ⟨y, _, rfl, ry', kd y (List.mem_of_getElem? hy), fun H4 s4 => ?_⟩
            refine yes _ H4 ⟨?_, s3.trans s4⟩ (s4 _ _ hD)
            rw [List.take_add_one, hy, List.map_append, List.map_append]
            rfl
          · rw [List.getElem?_append_right (by omega), List.getElem?_map] at hx
            cases hz : e.nums[i - us.length]? with
            | none =>
              rw [hz] at hx
              cases hx
            | some z =>
              rw [hz] at hx
              cases hx
              walk_at "go"
              refine rd_isiI ?_
              walk_at "go"
              refine no H' ⟨?_, s3⟩ hD
              rw [List.take_of_length_le (by omega : e.kids.length ≤ i), List.take_of_length_le (by omega : e.kids.length ≤ i + 1)]
        · obtain ⟨rfl, s3⟩ := h
          rw [List.take_of_length_le (by rw [List.length_append]; omega)] at hD
          walk_at "go"
          refine rd_sum (SqL.of hD) ?_
          walk_at "go"
          rw [← nodes_sum e]
          refine q H' fun b o hb => s3 _ _ (n1.same _ _ hb)
end
end Lw

set_option Elab.async false
set_option linter.all false
set_option maxRecDepth 100000
set_option maxHeartbeats 4000000
namespace Lw
open PySem PySem.Spec PyProof.Rows L2 Glay
/-- what is asked of the numbers by the way -/
local macro_rules | `(tactic| walk_at "side") => `(tactic| first
  | rfl
  | decide
  | assumption
  | omega
  | (unfold CMul; omega)
  | (unfold CPowW; exact ⟨by decide, by decide +kernel⟩)
  | exact wide_mul (a := 1400) (b := 1400) (by decide +kernel) (by decide +kernel) (by decide) (by decide) (by decide)
  | exact wide_div (b := 64) (by decide) (by decide) (by decide) (by decide)
  | (unfold CMul; exact Or.inr ⟨by decide, by decide⟩)
  | (unfold CMul; exact Or.inl ⟨by decide, by decide⟩)
  | (unfold CPow; omega)
  | (unfold CPow; refine ⟨by omega, by omega, ?_⟩; omega))
local macro_rules | `(tactic| walk_at "one") => `(tactic| with_reducible first
  | (refine' rd_var ?rdh ?_; (case rdh => with_unfolding_all exact rfl))
  | refine rd_c ?_
  | refine rd_op ?_
  | refine rd_un ?_
  | refine rd_I0 ?_
  | refine rd_I (by walk_at "side") ?_
  | refine rd_U ?_
  | refine rd_seq ?_
  | refine rd_next ?_
  | refine rd_asg ?_
  | refine rd_name ?_
  | refine rd_par ?_
  | refine rd_par2 ?_
  | refine rd_ret ?_
  | refine rd_ifs ?_
  | refine rd_if ?_
  | refine rd_test ?_
  | refine rd_B ?_
  | refine rd_not ?_
  | refine rd_and ?_
  | refine rd_or ?_
  | refine rd_andV ?_
  | refine rd_orV ?_
  | refine rd_notV ?_
  | refine rd_chain ?_
  | refine rd_k ?_
  | refine rd_eq (by with_unfolding_all rfl) ?_
  | refine rd_ne (by with_unfolding_all rfl) ?_
  | refine rd_call ?_
  | refine rd_cb ?_
  | refine rd_nil ?_
  | refine rd_cons ?_
  | refine rd_lst ?_
  | refine rd_gcons ?_
  | refine rd_gnil ?_
  | refine rd_sub ?_
  | (refine' rd_ixL (SqL.of (by assumption)) ?rde ?_; (case rde => with_unfolding_all exact rfl))
  | refine rd_intI ?_
  | refine rd_intB ?_
  | refine rd_abs ?_
  | refine rd_sl ?_
  | refine rd_nopart ?_
  | refine rd_part ?_
  | refine rd_pi ?_
  | refine rd_nt ?_
  | refine rd_nf ?_
  | refine rd_t ?_
  | refine rd_f ?_
  | refine rd_for ?_
  | refine rd_max2 ?_
  | refine rd_izip ?_
  | refine rd_min2 ?_
  | (refine' rd_in (SqT.of (by assumption)) ?rdf ?rda ?_; (case rdf => with_unfolding_all rfl); (case rda => with_unfolding_all rfl))
  | refine rd_lc ?_
  | refine rd_itup ?_
  | refine rd_tyes ?_
  | (refine' rd_ixT (SqT.of (by assumption)) ?rde ?_; (case rde => first | exact at_head | with_unfolding_all exact rfl))
  | refine rd_ilist ?_
  | refine rd_irng ?_
  | refine rd_tup ?_)
local macro_rules | `(tactic| walk_at "rd") => `(tactic| repeat walk_at "one")
/-- one of two ways, by a written text -/
local macro_rules | `(tactic| walk_at "br") => `(tactic| first
  | refine rd_yes (by decide +kernel) ?_
  | refine rd_no (by decide +kernel) ?_
  | refine rd_yesN (by decide +kernel) ?_
  | refine rd_noN (by decide +kernel) ?_
  | refine rd_brT (by decide +kernel) ?_
  | refine rd_brF (by decide +kernel) ?_)
local macro_rules | `(tactic| walk_at "go") => `(tactic| repeat (first | walk_at "one" | walk_at "br"))
/-! ### drawn expressions -/
/-- at most so many nodes -/
def bnd (s : Int) : Int := if s ≤ 1 then 1 else 2 * s
def top1 (s : Int) : Int := if s ≤ 1 then 1 else s
def sp_tree (n : Nat) : Sp := fun vs H Q _ => ∃ (d r c kd : Addr) (t s : Int) (ks : List Op), vs = [.ref d, .int s, .ref kd] ∧ Dr H d r c t ∧ s ≤ n ∧ s ≤ 500 ∧ t + 16 * top1 s + 16 ≤ 800000 ∧ kd ≠ d ∧ kd ≠ r ∧ H kd = some (.lst (ks.map fun o => V.str o.str)) ∧
  0 < ks.length ∧ ks.length ≤ 100 ∧ ∀ H' v e t', Rep H' e v → e.Ok → e.Of ks → (e.nodes : Int) ≤ bnd s → Dr H' d r c t' → t' ≤ t + 8 * e.nodes → Fr d r H H' → Q v H'
theorem amount_ok {y : Int} (h0 : 0 ≤ y) : 1 ≤ 1 + y % (1 * 2 ^ (64 : Int).toNat - 1) ∧ 1 + y % (1 * 2 ^ (64 : Int).toNat - 1) < 2 ^ 64 := by
  have e : (1 * 2 ^ (64 : Int).toNat - 1 : Int) = 18446744073709551615 := by decide
  have e2 : (2 : Int) ^ 64 = 18446744073709551616 := by decide
  rw [e, e2]
  omega
section
variable {P : Program} {w : World} {K : PySem.W.Frag} {mg : Str → Option Value} {base : Heap} {f f1 f2 f3 f4 f5 f6 f7 : Addr} {fd fd1 fd2 fd3 fd4 fd5 fd6 fd7 : FuncData}
theorem ok_tree (T : Top mg) (D__law_next : Df K mg "_law_next" s__law_next ["_law_drawn", "_law_many"] f1 fd1) (D__law_one : Df K mg "_law_one" s__law_one ["_law_drawn", "_law_items"] f2 fd2) (D__law_number : Df K mg "_law_number" s__law_number ["_law_drawn"] f3 fd3)
    (D__law_leaf : Df K mg "_law_leaf" s__law_leaf ["_law_drawn"] f4 fd4) (D__law_counted : Df K mg "_law_counted" s__law_counted ["_law_operation"] f5 fd5) (D__law_nodes : Df K mg "_law_nodes" s__law_nodes ["_law_expression"] f6 fd6)
    (D__law_tree : Df K mg "_law_tree" s__law_tree ["_law_drawn", "_law_size", "_law_kinds"] f fd) : ∀ n : Nat, n ≤ 40 → FnOk P w K mg base CX0 (n + 100) f fd ["_law_drawn", "_law_size", "_law_kinds"] (sp_tree n) := by
  have G__law_next : FnOk P w K mg base CX0 1 f1 fd1 _ sp_next := ok_next T D__law_next.fn
  have G__law_one : FnOk P w K mg base CX0 2 f2 fd2 _ sp_one := ok_one T D__law_next D__law_one.fn
  have G__law_number : FnOk P w K mg base CX0 3 f3 fd3 _ sp_number := ok_number T D__law_next D__law_one D__law_number.fn
  have G__law_leaf : FnOk P w K mg base CX0 4 f4 fd4 _ sp_leaf := ok_leaf T D__law_next D__law_one D__law_number D__law_leaf.fn
  have G__law_counted : FnOk P w K mg base CX0 1 f5 fd5 _ sp_counted := ok_counted T D__law_counted.fn
  have G__law_nodes : FnOk P w K mg base CX0 91 f6 fd6 _ (sp_nodes 90) := ok_nodes T D__law_nodes 90
  intro n
  induction n with
  | zero =>
    intro _
    refine D__law_tree.fn.ok sc__law_tree (k := 99) (fun vs H Q E h => ?_) (fun cdv A outer s H vs Q E hr h => ?_)
    · obtain ⟨d, r, c, kd, t, z, ks, rfl, _⟩ := h
      rfl
    · obtain ⟨d, r, c, kd, t, z, ks, rfl, hD, zn, z5, tt, kd1, kd2, hk, k0, k1, q⟩ := h
      have G__law_tree : FnOk P w K mg base CX0 0 f fd ["_law_drawn", "_law_size", "_law_kinds"] (fun _ _ _ _ => False) := ⟨fun _ _ _ _ h => h.elim, fun _ _ _ _ _ _ _ _ _ _ _ _ _ h => h.elim⟩
      refine ⟨_, (pss_cons (ps_if (PW.pt (pw_or (pt_cmpR op_lt (pv 1) pe_int (nomark _)) (pw_or1 (pt_cmpR op_eq (callF D__law_next G__law_next (hr.mono (by omega)) (by rfl) (pa_cons (pv 0) (pa_cons pe_int pa_nil))) pe_int (nomark _)))))
       (pss_one (ps_ret (callF D__law_leaf G__law_leaf (hr.mono (by omega)) (by rfl) (pa_cons (pv 0) pa_nil))))
       pss_nil)
      (pss_cons (ps_set (i := 3) sc__law_tree.nd rfl (by first | exact Or.inl rfl | exact Or.inr rfl) (callF D__law_one G__law_one (hr.mono (by omega)) (by rfl) (pa_cons (pv 0) (pa_cons (pv 2) pa_nil))))
      (pss_cons (ps_set (i := 4) sc__law_tree.nd rfl (by first | exact Or.inl rfl | exact Or.inr rfl) (pe_op op_sub (pv 1) pe_int))
      (pss_cons (ps_if (pt_cmpR op_gt (pe_ix (ixt_k (K := K) rfl) (callF D__law_counted G__law_counted (hr.mono (by omega)) (by rfl) (pa_cons (pv 3) pa_nil)) pe_int (fun _ _ => rfl)) pe_int (nomark _))
       (pss_one (ps_set (i := 4) sc__law_tree.nd rfl (by first | exact Or.inl rfl | exact Or.inr rfl) (pe_op op_add pe_int (callF D__law_next G__law_next (hr.mono (by omega)) (by rfl) (pa_cons (pv 0) (pa_cons (pe_callB (max_2 rfl) (by rfl) T.z_max (by decide +kernel) (pa_cons pe_int (pa_cons (pe_op op_sub (pv 1) pe_int) pa_nil))) pa_nil))))))
       pss_nil)
      (pss_cons (ps_set (i := 5) sc__law_tree.nd rfl (by first | exact Or.inl rfl | exact Or.inr rfl) (callF D__law_tree G__law_tree (hr.mono (by omega)) (by rfl) (pa_cons (pv 0) (pa_cons (pv 4) (pa_cons (pv 2) pa_nil)))))
      (pss_cons (ps_if (pt_cmpR (ins_k (K := K) rfl) (pv 3) (pe_tup (pa_cons pe_str (pa_cons pe_str pa_nil))) (by rfl))
       (pss_one (ps_ret (pe_tup (pa_cons (pv 3) (pa_cons (pv 5) pa_nil)))))
       pss_nil)
      (pss_cons (ps_if (pt_cmpR (ins_k (K := K) rfl) (pv 3) (pe_tup (pa_cons pe_str (pa_cons pe_str (pa_cons pe_str pa_nil)))) (by rfl))
       (pss_one (ps_ret (pe_tup (pa_cons (pv 3) (pa_cons (pv 5) (pa_cons (callF D__law_one G__law_one (hr.mono (by omega)) (by rfl) (pa_cons (pv 0) (pa_cons (pe_lst (pa_cons pe_int (pa_cons pe_int (pa_cons pe_int (pa_cons (callF D__law_next G__law_next (hr.mono (by omega)) (by rfl) (pa_cons (pv 0) (pa_cons pe_int pa_nil))) (pa_cons pe_int pa_nil)))))) pa_nil))) pa_nil))))))
       pss_nil)
      (pss_cons (ps_if (pt_cmpR (ins_k (K := K) rfl) (pv 3) (pe_tup (pa_cons pe_str (pa_cons pe_str pa_nil))) (by rfl))
       (pss_one (ps_ret (pe_tup (pa_cons (pv 3) (pa_cons (pv 5) (pa_cons (pe_op op_add pe_int (pe_op op_mod (callF D__law_number G__law_number (hr.mono (by omega)) (by rfl) (pa_cons (pv 0) pa_nil)) (pe_op op_sub (pe_op op_shl pe_int pe_int) pe_int))) pa_nil))))))
       pss_nil)
      (pss_cons (ps_set (i := 6) sc__law_tree.nd rfl (by first | exact Or.inl rfl | exact Or.inr rfl) (callF D__law_tree G__law_tree (hr.mono (by omega)) (by rfl) (pa_cons (pv 0) (pa_cons (pe_op op_sub (pe_op op_sub (pv 1) pe_int) (callF D__law_nodes G__law_nodes (hr.mono (by omega)) (by rfl) (pa_cons (pv 5) pa_nil))) (pa_cons (pv 2) pa_nil)))))
      (pss_cons (ps_if (pt_cmpR op_eq (pv 3) pe_str (nomark _))
       (pss_one (ps_ret (pe_tup (pa_cons (pv 3) (pa_cons (pv 5) (pa_cons (callF D__law_leaf G__law_leaf (hr.mono (by omega)) (by rfl) (pa_cons (pv 0) pa_nil)) (pa_cons (pv 6) pa_nil)))))))
       pss_nil)
      (pss_one (ps_ret (pe_tup (pa_cons (pv 3) (pa_cons (pv 5) (pa_cons (pv 6) pa_nil)))))))))))))))), ?_⟩
      have hz : top1 z = 1 := if_pos (by omega)
      have hb : bnd z = 1 := if_pos (by omega)
      walk_at "rd"
      refine rd_yes (by omega) ?_
      walk_at "rd"
      refine ⟨d, r, c, t, rfl, hD, by omega, fun H' v e t' h1 h2 h3 h4 h5 h6 h7 => ?_⟩
      exact q H' v e t' h1 h2 (h4 ks) (by rw [h3, hb]; decide) h6 (by rw [h3]; omega) h7
  | succ n ih =>
    intro hn
    have G__law_tree : FnOk P w K mg base CX0 (n + 100) f fd ["_law_drawn", "_law_size", "_law_kinds"] (sp_tree n) := ih (by omega)
    refine D__law_tree.fn.ok sc__law_tree (fun vs H Q E h => ?_) (fun cdv A outer s H vs Q E hr h => ?_)
    · obtain ⟨d, r, c, kd, t, z, ks, rfl, _⟩ := h
      rfl
    · obtain ⟨d, r, c, kd, t, z, ks, rfl, hD, zn, z5, tt, kd1, kd2, hk, k0, k1, q⟩ := h
      refine ⟨_, (pss_cons (ps_if (PW.pt (pw_or (pt_cmpR op_lt (pv 1) pe_int (nomark _)) (pw_or1 (pt_cmpR op_eq (callF D__law_next G__law_next (hr.mono (by omega)) (by rfl) (pa_cons (pv 0) (pa_cons pe_int pa_nil))) pe_int (nomark _)))))
       (pss_one (ps_ret (callF D__law_leaf G__law_leaf (hr.mono (by omega)) (by rfl) (pa_cons (pv 0) pa_nil))))
       pss_nil)
      (pss_cons (ps_set (i := 3) sc__law_tree.nd rfl (by first | exact Or.inl rfl | exact Or.inr rfl) (callF D__law_one G__law_one (hr.mono (by omega)) (by rfl) (pa_cons (pv 0) (pa_cons (pv 2) pa_nil))))
      (pss_cons (ps_set (i := 4) sc__law_tree.nd rfl (by first | exact Or.inl rfl | exact Or.inr rfl) (pe_op op_sub (pv 1) pe_int))
      (pss_cons (ps_if (pt_cmpR op_gt (pe_ix (ixt_k (K := K) rfl) (callF D__law_counted G__law_counted (hr.mono (by omega)) (by rfl) (pa_cons (pv 3) pa_nil)) pe_int (fun _ _ => rfl)) pe_int (nomark _))
       (pss_one (ps_set (i := 4) sc__law_tree.nd rfl (by first | exact Or.inl rfl | exact Or.inr rfl) (pe_op op_add pe_int (callF D__law_next G__law_next (hr.mono (by omega)) (by rfl) (pa_cons (pv 0) (pa_cons (pe_callB (max_2 rfl) (by rfl) T.z_max (by decide +kernel) (pa_cons pe_int (pa_cons (pe_op op_sub (pv 1) pe_int) pa_nil))) pa_nil))))))
       pss_nil)
      (pss_cons (ps_set (i := 5) sc__law_tree.nd rfl (by first | exact Or.inl rfl | exact Or.inr rfl) (callF D__law_tree G__law_tree (hr.mono (by omega)) (by rfl) (pa_cons (pv 0) (pa_cons (pv 4) (pa_cons (pv 2) pa_nil)))))
      (pss_cons (ps_if (pt_cmpR (ins_k (K := K) rfl) (pv 3) (pe_tup (pa_cons pe_str (pa_cons pe_str pa_nil))) (by rfl))
       (pss_one (ps_ret (pe_tup (pa_cons (pv 3) (pa_cons (pv 5) pa_nil)))))
       pss_nil)
      (pss_cons (ps_if (pt_cmpR (ins_k (K := K) rfl) (pv 3) (pe_tup (pa_cons pe_str (pa_cons pe_str (pa_cons pe_str pa_nil)))) (by rfl))
       (pss_one (ps_ret (pe_tup (pa_cons (pv 3) (pa_cons (pv 5) (pa_cons (callF D__law_one G__law_one (hr.mono (by omega)) (by rfl) (pa_cons (pv 0) (pa_cons (pe_lst (pa_cons pe_int (pa_cons pe_int (pa_cons pe_int (pa_cons (callF D__law_next G__law_next (hr.mono (by omega)) (by rfl) (pa_cons (pv 0) (pa_cons pe_int pa_nil))) (pa_cons pe_int pa_nil)))))) pa_nil))) pa_nil))))))
       pss_nil)
      (pss_cons (ps_if (pt_cmpR (ins_k (K := K) rfl) (pv 3) (pe_tup (pa_cons pe_str (pa_cons pe_str pa_nil))) (by rfl))
       (pss_one (ps_ret (pe_tup (pa_cons (pv 3) (pa_cons (pv 5) (pa_cons (pe_op op_add pe_int (pe_op op_mod (callF D__law_number G__law_number (hr.mono (by omega)) (by rfl) (pa_cons (pv 0) pa_nil)) (pe_op op_sub (pe_op op_shl pe_int pe_int) pe_int))) pa_nil))))))
       pss_nil)
      (pss_cons (ps_set (i := 6) sc__law_tree.nd rfl (by first | exact Or.inl rfl | exact Or.inr rfl) (callF D__law_tree G__law_tree (hr.mono (by omega)) (by rfl) (pa_cons (pv 0) (pa_cons (pe_op op_sub (pe_op op_sub (pv 1) pe_int) (callF D__law_nodes G__law_nodes (hr.mono (by omega)) (by rfl) (pa_cons (pv 5) pa_nil))) (pa_cons (pv 2) pa_nil)))))
      (pss_cons (ps_if (pt_cmpR op_eq (pv 3) pe_str (nomark _))
       (pss_one (ps_ret (pe_tup (pa_cons (pv 3) (pa_cons (pv 5) (pa_cons (callF D__law_leaf G__law_leaf (hr.mono (by omega)) (by rfl) (pa_cons (pv 0) pa_nil)) (pa_cons (pv 6) pa_nil)))))))
       pss_nil)
      (pss_one (ps_ret (pe_tup (pa_cons (pv 3) (pa_cons (pv 5) (pa_cons (pv 6) pa_nil)))))))))))))))), ?_⟩
      walk_at "rd"
      by_cases hz : z < 2
      · have hz1 : top1 z = 1 := if_pos (by omega)
        have hb : bnd z = 1 := if_pos (by omega)
        refine rd_yes hz ?_
        walk_at "rd"
        refine ⟨d, r, c, t, rfl, hD, by omega, fun H' v e t' h1 h2 h3 h4 h5 h6 h7 => ?_⟩
        exact q H' v e t' h1 h2 (h4 ks) (by rw [h3, hb]; decide) h6 (by rw [h3]; omega) h7
      have hz1 : top1 z = z := if_neg (by omega)
      have hb : bnd z = 2 * z := if_neg (by omega)
      refine rd_no hz ?_
      walk_at "rd"
      refine ⟨d, r, c, t, 8, rfl, hD, by omega, by decide, size_of_small (by decide) (by decide), fun H1 v v0 v1 D1 F1 => ?_⟩
      walk_at "rd"
      refine rd_dec (fun e0 => ?_) fun e0 => ?_
      · walk_at "rd"
        refine ⟨d, r, c, t + 1, rfl, D1, by omega, fun H' v e t' h1 h2 h3 h4 h5 h6 h7 => ?_⟩
        exact q H' v e t' h1 h2 (h4 ks) (by rw [h3, hb]; omega) h6 (by rw [h3]; omega) (F1.trans h7)
      · walk_at "rd"
        have hk1 := F1 _ _ kd1 kd2 hk
        refine ⟨d, r, c, kd, t + 1, _, rfl, D1, by omega, kd1, kd2, hk1, by rw [List.length_map]; omega, by rw [List.length_map]; omega, fun H2 x hx D2 F2 => ?_⟩
        obtain ⟨o, ho, rfl⟩ := List.mem_map.mp hx
        walk_at "rd"
        have hk2 := F2 _ _ kd1 kd2 hk1
        refine ⟨o, rfl, fun p3 H3 b s3 h3 => ?_⟩
        have D3 := D2.same s3
        have hk3 := s3 _ _ hk2
        have F3 : Fr d r H H3 := F1.trans (F2.trans (Fr.of s3))
        have tz : top1 (z - 1) ≤ z - 1 := by unfold top1; split <;> omega
        have bz : bnd (z - 1) ≤ 2 * (z - 1) := by unfold bnd; split <;> omega
        cases o with
        | u o =>
          have h3' : H3 p3 = some (.tup [.int 1, .bl b]) := h3
          walk_at "go"
          refine ⟨d, r, c, kd, t + 1 + 1, z - 1, ks, rfl, D3, by omega, by omega, by omega, kd1, kd2, hk3, k0, k1, fun H4 v4 e4 t4 r4 ok4 of4 nd4 D4 le4 F4 => ?_⟩
          have p4 := e4.nodes_pos
          have fin : ∀ (H5 H6 : Hp) (p6 : Addr), Same H4 H5 → New H5 p6 (.tup [.str o.str, v4]) H6 → Q (.ref p6) H6 := by
            intro H5 H6 p6 s5 n6
            refine q H6 (.ref p6) (.un o e4) t4 ⟨p6, v4, rfl, n6.here, r4.mono (Tups.of (s5.trans n6.same))⟩ ok4 ⟨ho, of4⟩ ?_ ((D4.same s5).same n6.same) ?_ (F3.trans (F4.trans (Fr.of (s5.trans n6.same))))
            · simp only [Ex.nodes]; omega
            · simp only [Ex.nodes]; omega
          cases o <;> (
            walk_at "go"
            refine rd_newT (by show 2 ≤ 1000; decide) fun p5 H5 n5 => ?_
            have h5 := n5.here
            walk_at "go"
            refine rd_newT (by show 2 ≤ 1000; decide) fun p6 H6 n6 => ?_
            exact fin H5 H6 p6 n5.same n6)
        | s o =>
          have h3' : H3 p3 = some (.tup [.int 1, .bl b]) := h3
          walk_at "go"
          refine ⟨d, r, c, kd, t + 1 + 1, z - 1, ks, rfl, D3, by omega, by omega, by omega, kd1, kd2, hk3, k0, k1, fun H4 v4 e4 t4 r4 ok4 of4 nd4 D4 le4 F4 => ?_⟩
          have p4 := e4.nodes_pos
          have fin : ∀ (H5 H6 H7 : Hp) (p7 : Addr) (m t7 : Int), Same H4 H5 → Dr H6 d r c t7 → Fr d r H5 H6 → On.ok o m → t7 ≤ t4 + 4 → New H6 p7 (.tup [.str o.str, v4, .int m]) H7 → Q (.ref p7) H7 := by
            intro H5 H6 H7 p7 m t7 s5 D6 F6 om lt n7
            have D5 := D4.same s5
            refine q H7 (.ref p7) (.sh o e4 m) t7 ⟨p7, v4, rfl, n7.here, ((r4.mono (Tups.of s5)).mono (Tups.fr D5 F6)).mono (Tups.of n7.same)⟩ ⟨ok4, om⟩ ⟨ho, of4⟩ ?_ (D6.same n7.same) ?_ (F3.trans (F4.trans ((Fr.of s5).trans (F6.trans (Fr.of n7.same)))))
            · simp only [Ex.nodes]; omega
            · simp only [Ex.nodes]; omega
          cases o with
          | left | right | signed =>
            walk_at "go"
            refine rd_newT (by show 2 ≤ 1000; decide) fun p5 H5 n5 => ?_
            have h5 := n5.here
            walk_at "go"
            refine rd_newT (by show 3 ≤ 1000; decide) fun p6 H6 n6 => ?_
            have h6 := n6.here
            have D6 := (D4.same n5.same).same n6.same
            walk_at "go"
            refine ⟨d, r, c, t4, 64, rfl, D6, by omega, by decide, size_of_small (by decide) (by decide), fun H7 u u0 u1 D7 F7 => ?_⟩
            walk_at "go"
            refine rd_new (by show 5 ≤ 1000; decide) fun p8 H8 n8 => ?_
            walk_at "go"
            obtain ⟨o1, o2⟩ := D7.off n8.free
            refine ⟨d, r, c, p8, t4 + 1, _, rfl, D7.same n8.same, by omega, o1, o2, n8.here, (by show 0 < 5; decide), (by show 5 ≤ 1000; decide), fun H9 x9 hx9 D9 F9 => ?_⟩
            have hv : ∃ y : Int, x9 = .int y ∧ 0 ≤ y ∧ y ≤ 63 := by
              simp only [List.mem_cons, List.not_mem_nil, or_false] at hx9
              rcases hx9 with h | h | h | h | h <;> exact ⟨_, h, by omega, by omega⟩
            obtain ⟨y, rfl, y0, y1⟩ := hv
            walk_at "go"
            refine rd_newT (by show 3 ≤ 1000; decide) fun p10 H10 n10 => ?_
            exact fin H6 H9 H10 p10 y _ (n5.same.trans n6.same) D9 (F7.trans ((Fr.of n8.same).trans F9)) ⟨y0, y1⟩ (by omega) n10
          | quo | rem =>
            walk_at "go"
            refine rd_newT (by show 2 ≤ 1000; decide) fun p5 H5 n5 => ?_
            have h5 := n5.here
            walk_at "go"
            refine rd_newT (by show 3 ≤ 1000; decide) fun p6 H6 n6 => ?_
            have h6 := n6.here
            walk_at "go"
            refine rd_newT (by show 2 ≤ 1000; decide) fun p7 H7 n7 => ?_
            have h7 := n7.here
            have D7 := ((D4.same n5.same).same n6.same).same n7.same
            walk_at "go"
            refine ⟨d, r, c, t4, rfl, D7, by omega, fun H8 y y0 y1 D8 F8 => ?_⟩
            walk_at "go"
            refine rd_newT (by show 3 ≤ 1000; decide) fun p9 H9 n9 => ?_
            exact fin H7 H8 H9 p9 _ _ (n5.same.trans (n6.same.trans n7.same)) D8 F8 (amount_ok y0) (by omega) n9
        | b o =>
          have h3' : H3 p3 = some (.tup [.int 2, .bl b]) := h3
          have i1 : (if false = true then !inV (.str (Op.b o).str) [.str "not", .str "neg"] else inV (.str (Op.b o).str) [.str "not", .str "neg"]) = false := by cases o <;> decide +kernel
          have i2 : (if false = true then !inV (.str (Op.b o).str) [.str "left", .str "right", .str "signed"] else inV (.str (Op.b o).str) [.str "left", .str "right", .str "signed"]) = false := by cases o <;> decide +kernel
          have i3 : (if false = true then !inV (.str (Op.b o).str) [.str "quo", .str "rem"] else inV (.str (Op.b o).str) [.str "quo", .str "rem"]) = false := by cases o <;> decide +kernel
          have i4 : ¬ V.str (Op.b o).str = V.str "pick" := by cases o <;> decide +kernel
          walk_at "go"
          have mm : 1 ≤ (if z - 2 > 1 then z - 2 else 1) ∧ (if z - 2 > 1 then z - 2 else 1) ≤ 500 ∧ (if z - 2 > 1 then z - 2 else 1) ≤ z - 1 := by
            split <;> omega
          generalize hm : (if z - 2 > 1 then z - 2 else 1) = m at mm
          have hm' : m = z - 2 ∨ (m = 1 ∧ z ≤ 3) := by
            rw [← hm]
            split <;> omega
          refine ⟨d, r, c, t + 1 + 1, m, rfl, D3, by omega, by omega, size_of_small (by omega) (Int.lt_of_le_of_lt mm.2.1 (by decide)), fun H4 v4 v40 v41 D4 F4 => ?_⟩
          have hk4 := F4 _ _ kd1 kd2 hk3
          walk_at "go"
          have tb : top1 (1 + v4) ≤ z - 1 := by unfold top1; split <;> omega
          have bb : (1 + v4 ≤ 1 ∧ bnd (1 + v4) = 1) ∨ (2 ≤ 1 + v4 ∧ 1 + v4 ≤ z - 2 ∧ bnd (1 + v4) ≤ 2 * (z - 2)) := by unfold bnd; split <;> omega
          refine ⟨d, r, c, kd, t + 1 + 1 + 1, 1 + v4, ks, rfl, D4, by omega, by omega, by omega, kd1, kd2, hk4, k0, k1, fun H5 v5 e5 t5 r5 ok5 of5 nd5 D5 le5 F5 => ?_⟩
          have p5 := e5.nodes_pos
          have hk5 := F5 _ _ kd1 kd2 hk4
          walk_at "go"
          refine rd_newT (by show 2 ≤ 1000; decide) fun q6 H6 n6 => ?_
          have h6 := n6.here
          walk_at "go"
          refine rd_brF i1 ?_
          walk_at "go"
          refine rd_newT (by show 3 ≤ 1000; decide) fun q7 H7 n7 => ?_
          have h7 := n7.here
          walk_at "go"
          refine rd_brF i2 ?_
          walk_at "go"
          refine rd_newT (by show 2 ≤ 1000; decide) fun q8 H8 n8 => ?_
          have h8 := n8.here
          walk_at "go"
          refine rd_brF i3 ?_
          walk_at "go"
          have s8 : Same H5 H8 := n6.same.trans (n7.same.trans n8.same)
          have r8 := r5.mono (Tups.of s8)
          have D8 := D5.same s8
          have hk8 := s8 _ _ hk5
          have dp5 := e5.depth_le
          refine ⟨e5, v5, rfl, r8, by omega, fun H9 s9 => ?_⟩
          walk_at "go"
          have tc : t5 + 16 * top1 (z - 1 - (e5.nodes : Int)) + 16 ≤ 800000 := by unfold top1; split <;> omega
          have bc : bnd (z - 1 - (e5.nodes : Int)) ≤ 1 ∨ bnd (z - 1 - (e5.nodes : Int)) ≤ 2 * (z - 1 - (e5.nodes : Int)) := by unfold bnd; split <;> omega
          refine ⟨d, r, c, kd, t5, z - 1 - (e5.nodes : Int), ks, rfl, D8.same s9, by omega, by omega, tc, kd1, kd2, s9 _ _ hk8, k0, k1, fun H10 v10 e10 t10 r10 ok10 of10 nd10 D10 le10 F10 => ?_⟩
          have p10 := e10.nodes_pos
          have r9 := (r8.mono (Tups.of s9)).mono (Tups.fr (D8.same s9) F10)
          walk_at "go"
          refine rd_no i4 ?_
          walk_at "go"
          refine rd_newT (by show 3 ≤ 1000; decide) fun p11 H11 n11 => ?_
          refine q H11 (.ref p11) (.bin o e5 e10) t10 ⟨p11, v5, v10, rfl, n11.here, r9.mono (Tups.of n11.same), r10.mono (Tups.of n11.same)⟩ ⟨ok5, ok10⟩ ⟨ho, of5, of10⟩ ?_ (D10.same n11.same) ?_
            (F3.trans (F4.trans (F5.trans ((Fr.of (s8.trans s9)).trans (F10.trans (Fr.of n11.same))))))
          · simp only [Ex.nodes]; omega
          · simp only [Ex.nodes]; omega
        | p =>
          have h3' : H3 p3 = some (.tup [.int 3, .bl b]) := h3
          walk_at "go"
          have mm : 1 ≤ (if z - 2 > 1 then z - 2 else 1) ∧ (if z - 2 > 1 then z - 2 else 1) ≤ 500 ∧ (if z - 2 > 1 then z - 2 else 1) ≤ z - 1 := by
            split <;> omega
          generalize hm : (if z - 2 > 1 then z - 2 else 1) = m at mm
          have hm' : m = z - 2 ∨ (m = 1 ∧ z ≤ 3) := by
            rw [← hm]
            split <;> omega
          refine ⟨d, r, c, t + 1 + 1, m, rfl, D3, by omega, by omega, size_of_small (by omega) (Int.lt_of_le_of_lt mm.2.1 (by decide)), fun H4 v4 v40 v41 D4 F4 => ?_⟩
          have hk4 := F4 _ _ kd1 kd2 hk3
          walk_at "go"
          have tb : top1 (1 + v4) ≤ z - 1 := by unfold top1; split <;> omega
          have bb : (1 + v4 ≤ 1 ∧ bnd (1 + v4) = 1) ∨ (2 ≤ 1 + v4 ∧ 1 + v4 ≤ z - 2 ∧ bnd (1 + v4) ≤ 2 * (z - 2)) := by unfold bnd; split <;> omega
          refine ⟨d, r, c, kd, t + 1 + 1 + 1, 1 + v4, ks, rfl, D4, by omega, by omega, by omega, kd1, kd2, hk4, k0, k1, fun H5 v5 e5 t5 r5 ok5 of5 nd5 D5 le5 F5 => ?_⟩
          have p5 := e5.nodes_pos
          have hk5 := F5 _ _ kd1 kd2 hk4
          walk_at "go"
          refine rd_newT (by show 2 ≤ 1000; decide) fun q6 H6 n6 => ?_
          have h6 := n6.here
          walk_at "go"
          refine rd_newT (by show 3 ≤ 1000; decide) fun q7 H7 n7 => ?_
          have h7 := n7.here
          walk_at "go"
          refine rd_newT (by show 2 ≤ 1000; decide) fun q8 H8 n8 => ?_
          have h8 := n8.here
          walk_at "go"
          have s8 : Same H5 H8 := n6.same.trans (n7.same.trans n8.same)
          have r8 := r5.mono (Tups.of s8)
          have D8 := D5.same s8
          have hk8 := s8 _ _ hk5
          have dp5 := e5.depth_le
          refine ⟨e5, v5, rfl, r8, by omega, fun H9 s9 => ?_⟩
          walk_at "go"
          have tc : t5 + 16 * top1 (z - 1 - (e5.nodes : Int)) + 16 ≤ 800000 := by unfold top1; split <;> omega
          have bc : bnd (z - 1 - (e5.nodes : Int)) ≤ 1 ∨ bnd (z - 1 - (e5.nodes : Int)) ≤ 2 * (z - 1 - (e5.nodes : Int)) := by unfold bnd; split <;> omega
          refine ⟨d, r, c, kd, t5, z - 1 - (e5.nodes : Int), ks, rfl, D8.same s9, by omega, by omega, tc, kd1, kd2, s9 _ _ hk8, k0, k1, fun H10 v10 e10 t10 r10 ok10 of10 nd10 D10 le10 F10 => ?_⟩
          have p10 := e10.nodes_pos
          have r9 := (r8.mono (Tups.of s9)).mono (Tups.fr (D8.same s9) F10)
          walk_at "go"
          refine ⟨d, r, c, t10, rfl, D10, by omega, fun H11 v11 e11 t11 r11 ok11 nd11 of11 le11 D11 F11 => ?_⟩
          walk_at "go"
          refine rd_newT (by show 4 ≤ 1000; decide) fun p12 H12 n12 => ?_
          have m11 := Tups.fr D10 F11
          refine q H12 (.ref p12) (.pick e5 e11 e10) t11 ⟨p12, v5, v11, v10, rfl, n12.here, (r9.mono m11).mono (Tups.of n12.same), r11.mono (Tups.of n12.same), (r10.mono m11).mono (Tups.of n12.same)⟩ ⟨ok5, ok11, ok10⟩ ⟨ho, of5, of11 ks, of10⟩ ?_ (D11.same n12.same) ?_
            (F3.trans (F4.trans (F5.trans ((Fr.of (s8.trans s9)).trans (F10.trans (F11.trans (Fr.of n12.same)))))))
          · simp only [Ex.nodes]; omega
          · simp only [Ex.nodes]; omega
end
end Lw

set_option Elab.async false
set_option linter.all false
set_option maxRecDepth 100000
set_option maxHeartbeats 4000000
namespace Lw
open PySem PySem.Spec PyProof.Rows L2 Glay
/-- what is asked of the numbers by the way -/
local macro_rules | `(tactic| walk_at "side") => `(tactic| first
  | rfl
  | decide
  | assumption
  | omega
  | (unfold CMul; omega)
  | (unfold CPowW; exact ⟨by decide, by decide +kernel⟩)
  | exact wide_mul (a := 1400) (b := 1400) (by decide +kernel) (by decide +kernel) (by decide) (by decide) (by decide)
  | exact wide_div (b := 64) (by decide) (by decide) (by decide) (by decide)
  | (unfold CMul; exact Or.inr ⟨by decide, by decide⟩)
  | (unfold CMul; exact Or.inl ⟨by decide, by decide⟩)
  | (unfold CPow; omega)
  | (unfold CPow; refine ⟨by omega, by omega, ?_⟩; omega))
local macro_rules | `(tactic| walk_at "one") => `(tactic| with_reducible first
  | (refine' rd_var ?rdh ?_; (case rdh => with_unfolding_all exact rfl))
  | refine rd_c ?_
  | refine rd_op ?_
  | refine rd_un ?_
  | refine rd_I0 ?_
  | refine rd_I (by walk_at "side") ?_
  | refine rd_U ?_
  | refine rd_seq ?_
  | refine rd_next ?_
  | refine rd_asg ?_
  | refine rd_name ?_
  | refine rd_par ?_
  | refine rd_par2 ?_
  | refine rd_ret ?_
  | refine rd_ifs ?_
  | refine rd_if ?_
  | refine rd_test ?_
  | refine rd_B ?_
  | refine rd_not ?_
  | refine rd_and ?_
  | refine rd_or ?_
  | refine rd_andV ?_
  | refine rd_orV ?_
  | refine rd_notV ?_
  | refine rd_chain ?_
  | refine rd_k ?_
  | refine rd_eq (by with_unfolding_all rfl) ?_
  | refine rd_ne (by with_unfolding_all rfl) ?_
  | refine rd_call ?_
  | refine rd_cb ?_
  | refine rd_nil ?_
  | refine rd_cons ?_
  | refine rd_lst ?_
  | refine rd_gcons ?_
  | refine rd_gnil ?_
  | refine rd_sub ?_
  | (refine' rd_ixL (SqL.of (by assumption)) ?rde ?_; (case rde => with_unfolding_all exact rfl))
  | refine rd_intI ?_
  | refine rd_intB ?_
  | refine rd_abs ?_
  | refine rd_sl ?_
  | refine rd_nopart ?_
  | refine rd_part ?_
  | refine rd_pi ?_
  | refine rd_nt ?_
  | refine rd_nf ?_
  | refine rd_t ?_
  | refine rd_f ?_
  | refine rd_for ?_
  | refine rd_max2 ?_
  | refine rd_izip ?_
  | refine rd_min2 ?_
  | (refine' rd_in (SqT.of (by assumption)) ?rdf ?rda ?_; (case rdf => with_unfolding_all rfl); (case rda => with_unfolding_all rfl))
  | refine rd_lc ?_
  | refine rd_itup ?_
  | refine rd_tyes ?_
  | (refine' rd_ixT (SqT.of (by assumption)) ?rde ?_; (case rde => first | exact at_head | with_unfolding_all exact rfl))
  | refine rd_ilist ?_
  | refine rd_irng ?_
  | refine rd_tup ?_)
local macro_rules | `(tactic| walk_at "rd") => `(tactic| repeat walk_at "one")
/-- one of two ways, by a written text -/
local macro_rules | `(tactic| walk_at "br") => `(tactic| first
  | refine rd_yes (by decide +kernel) ?_
  | refine rd_no (by decide +kernel) ?_
  | refine rd_yesN (by decide +kernel) ?_
  | refine rd_noN (by decide +kernel) ?_
  | refine rd_brT (by decide +kernel) ?_
  | refine rd_brF (by decide +kernel) ?_)
local macro_rules | `(tactic| walk_at "go") => `(tactic| repeat (first | walk_at "one" | walk_at "br"))
section
variable {X : Cx} {k : Nat} {f : Addr} {fd : FuncData} {st : Stmt} {sp : Sp} {x : Str} {p pos : Pos}
theorem callF0 (D : Df X.K X.mg x st [] f fd) (G : FnOk X.prog X.w X.K X.mg X.base CX0 k f fd [] sp) (hr : Room k X.A) (hg : Gl X x) (hdb : (x == ("__debug__" : Str)) = false := by decide) :
    PE X (.Call (.Name x p) [] [] pos) (tCall sp [] E0 tNil) := pe_call0 G hr hg D.place D.fn.kp D.bs .nil pass0 hdb
end
theorem at_end {α : Type} {x : α} {xs : List α} : atI (xs ++ [x]) (-1) = some x := atI_last _ _
/-- xs.append(e) -/
def kApp (p : Addr) (Q : VK) : VK := fun y H => rAppend (.ref p) [y] H Q
theorem rd_drop {σ : L2.St} {H : Hp} {D : Ends} {te : TE} (q : te σ H fun _ H1 => D.nx σ H1) : tDrop te D σ H := q
theorem rd_app {σ : L2.St} {H : Hp} {K : PySem.W.Frag} {te : TE} {n : Nat} {p : Addr} {us : List V} {Q : VK} (hv : σ[n]? = some (some (.ref p))) (hp : H p = some (.lst us)) (q : te σ H (kApp p Q)) : tBM K "list" rAppend (tVar n) (tCons te tNil) σ H Q :=
  ⟨.ref p, hv, .inl ⟨rfl, _, SqL.of hp⟩, q⟩
theorem rd_app2 {H : Hp} {p : Addr} {us : List V} {Q : VK} {y : V} (hp : H p = some (.lst us)) (few : us.length ≤ 900) (q : Q .non (upd H p (.lst (us ++ [y])))) : kApp p Q y H :=
  ⟨p, us, y, rfl, rfl, hp, small1000 (by omega), q⟩
def allOps : List Op := [.u .not, .u .neg, .b .add, .b .sub, .b .mul, .b .and, .b .or, .b .xor, .s .left, .s .right, .s .signed, .s .quo, .s .rem, .b .less, .b .same, .p]
theorem or_sum {x y : Int} (hx : 0 ≤ x) (hy : 0 ≤ y) : x + y - Builtin.bitAnd x y = Builtin.bitOr x y := by
  have h1 := bitXor_and x y
  have h2 : Builtin.bitXor x y = Builtin.bitOr x y - Builtin.bitAnd x y := rfl
  omega
theorem val_mod {w : Nat} {x : Int} (h : Wd w x) : x % 2 ^ w = x := Int.emod_eq_of_lt h.1 h.2
/-! ### equations of words -/
theorem neg_mods' (a m : Int) : (-a) % m = (-(a % m)) % m := by
  rw [show -a = -(a % m) + m * (-(a / m)) by rw [Int.mul_neg]; have := Int.emod_add_mul_ediv a m; omega, Int.add_mul_emod_self_left]
theorem bitAnd_pp {x y : Int} (hx : 0 ≤ x) (hy : 0 ≤ y) : Builtin.bitAnd x y = ((x.toNat &&& y.toNat : Nat) : Int) := by
  unfold Builtin.bitAnd
  rw [decide_eq_true hx, decide_eq_true hy]
theorem toNat_mod {x : Int} (hx : 0 ≤ x) (k : Nat) : (x % 2 ^ k).toNat = x.toNat % 2 ^ k := by
  obtain ⟨n, rfl⟩ := Int.eq_ofNat_of_zero_le hx
  have : ((n : Int) % 2 ^ k) = ((n % 2 ^ k : Nat) : Int) := by
    rw [Int.natCast_emod, Int.natCast_pow]
    rfl
  rw [this]
  rfl
theorem cast_mod (n k : Nat) : ((n : Int) % 2 ^ k) = ((n % 2 ^ k : Nat) : Int) := by
  rw [Int.natCast_emod, Int.natCast_pow]
  rfl
theorem and_mod {x y : Int} (hx : 0 ≤ x) (hy : 0 ≤ y) (k : Nat) : Builtin.bitAnd (x % 2 ^ k) (y % 2 ^ k) % 2 ^ k = Builtin.bitAnd x y % 2 ^ k := by
  rw [bitAnd_pp mods.1 mods.1, bitAnd_pp hx hy, toNat_mod hx, toNat_mod hy, cast_mod, cast_mod, ← Nat.and_mod_two_pow, Nat.mod_mod]
theorem or_mod {x y : Int} (hx : 0 ≤ x) (hy : 0 ≤ y) (k : Nat) : Builtin.bitOr (x % 2 ^ k) (y % 2 ^ k) % 2 ^ k = Builtin.bitOr x y % 2 ^ k := by
  rw [Bits.bitOr_pp mods.1 mods.1, Bits.bitOr_pp hx hy, toNat_mod hx, toNat_mod hy, cast_mod, cast_mod, ← Nat.or_mod_two_pow, Nat.mod_mod]
theorem xor_mod {x y : Int} (hx : 0 ≤ x) (hy : 0 ≤ y) (k : Nat) : Builtin.bitXor (x % 2 ^ k) (y % 2 ^ k) % 2 ^ k = Builtin.bitXor x y % 2 ^ k := by
  rw [Bits.bitXor_pp mods.1 mods.1, Bits.bitXor_pp hx hy, toNat_mod hx, toNat_mod hy, cast_mod, cast_mod, ← Nat.xor_mod_two_pow, Nat.mod_mod]
theorem mod_down {v w : Nat} (h : v ≤ w) (x : Int) : x % 2 ^ w % 2 ^ v = x % 2 ^ v := by
  refine Int.emod_emod_of_dvd x ?_
  exact ⟨2 ^ (w - v), by rw [← Int.pow_add, show v + (w - v) = w by omega]⟩
theorem mul_emod_emod' (x y m : Int) : x * (y % m) % m = x * y % m := by rw [Int.mul_emod, Int.emod_emod, ← Int.mul_emod]
theorem emod_mul_emod' (x y m : Int) : x % m * y % m = x * y % m := by rw [Int.mul_emod, Int.emod_emod, ← Int.mul_emod]
theorem neg_emod_emod (x m : Int) : (-(x % m)) % m = (-x) % m := (neg_mods' x m).symm
theorem com_nat {w : Nat} {x : Int} (h : Wd w x) : Wd w (2 ^ w - 1 - x) ∧ (-1 - x) % 2 ^ w = 2 ^ w - 1 - x := by
  have h1 := h.1
  have h2 := h.2
  have a : Wd w (2 ^ w - 1 - x) := ⟨by omega, by omega⟩
  refine ⟨a, ?_⟩
  rw [show -1 - x = (2 ^ w - 1 - x) + 2 ^ w * (-1) by omega, Int.add_mul_emod_self_left]
  exact val_mod a
theorem wd_nat {w : Nat} {x : Int} (h : Wd w x) : ∃ n : Nat, x = n ∧ n < 2 ^ w := by
  obtain ⟨n, rfl⟩ := Int.eq_ofNat_of_zero_le h.1
  refine ⟨n, rfl, Int.ofNat_lt.mp ?_⟩
  rw [Int.natCast_pow]
  exact h.2
theorem com_cast {w n : Nat} (h : n < 2 ^ w) : (2 : Int) ^ w - 1 - (n : Int) = ((2 ^ w - (n + 1) : Nat) : Int) := by
  have e : ((2 ^ w : Nat) : Int) = 2 ^ w := by rw [Int.natCast_pow]; rfl
  omega
theorem and_wd {w : Nat} {x y : Int} (hx : Wd w x) (hy : Wd w y) : Wd w (Builtin.bitAnd x y) := by
  have h := bitAnd_range x hy.1
  exact ⟨h.1, Int.lt_of_le_of_lt h.2 hy.2⟩
theorem or_wd {w : Nat} {x y : Int} (hx : Wd w x) (hy : Wd w y) : Wd w (Builtin.bitOr x y) := by
  obtain ⟨n, rfl, hn⟩ := wd_nat hx
  obtain ⟨m, rfl, hm⟩ := wd_nat hy
  rw [Bits.bitOr_pp hx.1 hy.1]
  refine ⟨Int.natCast_nonneg _, ?_⟩
  have := Nat.or_lt_two_pow hn hm
  have e : ((2 ^ w : Nat) : Int) = 2 ^ w := by rw [Int.natCast_pow]; rfl
  rw [← e]
  exact Int.ofNat_lt.mpr this
/-- not (x and y) is (not x) or (not y) -/
theorem not_and {w : Nat} {x y : Int} (hx : Wd w x) (hy : Wd w y) : 2 ^ w - 1 - Builtin.bitAnd x y = Builtin.bitOr (2 ^ w - 1 - x) (2 ^ w - 1 - y) := by
  obtain ⟨n, rfl, hn⟩ := wd_nat hx
  obtain ⟨m, rfl, hm⟩ := wd_nat hy
  have ha : n &&& m < 2 ^ w := Nat.lt_of_le_of_lt Nat.and_le_left hn
  rw [bitAnd_pp hx.1 hy.1, Int.toNat_natCast, Int.toNat_natCast, com_cast ha, com_cast hn, com_cast hm, Bits.bitOr_pp (Int.natCast_nonneg _) (Int.natCast_nonneg _), Int.toNat_natCast, Int.toNat_natCast]
  refine congrArg Int.ofNat (Nat.eq_of_testBit_eq fun i => ?_)
  rw [Nat.testBit_or, Nat.testBit_two_pow_sub_succ ha, Nat.testBit_two_pow_sub_succ hn, Nat.testBit_two_pow_sub_succ hm, Nat.testBit_and]
  cases n.testBit i <;> cases m.testBit i <;> cases decide (i < w) <;> rfl
/-- (x xor y) and x is x and (not y) -/
theorem xor_and {w : Nat} {x y : Int} (hx : Wd w x) (hy : Wd w y) : Builtin.bitAnd (Builtin.bitXor x y) x = Builtin.bitAnd x (2 ^ w - 1 - y) := by
  obtain ⟨n, rfl, hn⟩ := wd_nat hx
  obtain ⟨m, rfl, hm⟩ := wd_nat hy
  rw [Bits.bitXor_pp hx.1 hy.1, com_cast hm, bitAnd_pp (Int.natCast_nonneg _) (Int.natCast_nonneg _), bitAnd_pp (Int.natCast_nonneg _) (Int.natCast_nonneg _)]
  simp only [Int.toNat_natCast]
  refine congrArg Int.ofNat (Nat.eq_of_testBit_eq fun i => ?_)
  rw [Nat.testBit_and, Nat.testBit_and, Nat.testBit_xor, Nat.testBit_two_pow_sub_succ hm]
  by_cases h : i < w
  · rw [decide_eq_true h]
    cases n.testBit i <;> cases m.testBit i <;> rfl
  · rw [Nat.testBit_lt_two_pow (Nat.lt_of_lt_of_le hn (Nat.pow_le_pow_right (by decide) (by omega)))]
    simp
theorem xor_wd {w : Nat} {x y : Int} (hx : Wd w x) (hy : Wd w y) : Wd w (Builtin.bitXor x y) := by
  obtain ⟨n, rfl, hn⟩ := wd_nat hx
  obtain ⟨m, rfl, hm⟩ := wd_nat hy
  rw [Bits.bitXor_pp hx.1 hy.1]
  refine ⟨Int.natCast_nonneg _, ?_⟩
  have := Nat.xor_lt_two_pow hn hm
  have e : ((2 ^ w : Nat) : Int) = 2 ^ w := by rw [Int.natCast_pow]; rfl
  rw [← e]
  exact Int.ofNat_lt.mpr this
theorem xor_eq0 {w : Nat} {x y : Int} (hx : Wd w x) (hy : Wd w y) : Builtin.bitXor x y = 0 ↔ x = y := by
  obtain ⟨n, rfl, hn⟩ := wd_nat hx
  obtain ⟨m, rfl, hm⟩ := wd_nat hy
  rw [Bits.bitXor_pp hx.1 hy.1, Int.toNat_natCast, Int.toNat_natCast]
  constructor
  · intro h
    have h2 : n ^^^ m = 0 := Int.ofNat.inj h
    have h3 : n = m := Nat.eq_of_testBit_eq fun i => by
      have := congrArg (·.testBit i) h2
      simp only [Nat.testBit_xor, Nat.zero_testBit] at this
      revert this
      cases n.testBit i <;> cases m.testBit i <;> intro h <;> first | rfl | cases h
    rw [h3]
  · intro h
    rw [Int.ofNat.inj h, Nat.xor_self]
    rfl
/-- x mod 2 ^ k, by a mask -/
theorem and_mask {x : Int} (hx : 0 ≤ x) (k : Nat) : Builtin.bitAnd x (2 ^ k - 1) = x % 2 ^ k := by
  have e : (2 : Int) ^ k - 1 = ((2 ^ k - 1 : Nat) : Int) := by
    have e : ((2 ^ k : Nat) : Int) = 2 ^ k := by rw [Int.natCast_pow]; rfl
    have := Nat.two_pow_pos k
    omega
  obtain ⟨n, rfl⟩ := Int.eq_ofNat_of_zero_le hx
  rw [e, bitAnd_pp hx (Int.natCast_nonneg _), Int.toNat_natCast, Int.toNat_natCast, Nat.and_two_pow_sub_one_eq_mod, cast_mod]
/-- two expressions that are equal at all words -/
def Eqv (w : Nat) (a b : Ex) : Prop := ∀ env : Nat → Int, (∀ i, i < 4 → Wd w (env i)) → a.val w env = b.val w env
theorem one_mod {w : Nat} (h : 1 ≤ w) : (1 : Int) % 2 ^ w = 1 := by
  have : (2 : Int) ^ 1 ≤ 2 ^ w := by
    have h2 : (2 : Nat) ^ 1 ≤ 2 ^ w := Nat.pow_le_pow_right (by decide) h
    have h3 : ((2 ^ 1 : Nat) : Int) ≤ ((2 ^ w : Nat) : Int) := Int.ofNat_le.mpr h2
    rw [Int.natCast_pow, Int.natCast_pow] at h3
    exact h3
  exact Int.emod_eq_of_lt (by decide) (Int.lt_of_lt_of_le (by decide) this)
section
variable {w : Nat} {x y : Ex}
abbrev bn (o : O2) (x y : Ex) : Ex := .bin o x y
theorem eq_sub : Eqv w (bn .sub x y) (bn .add (bn .add x (.un .not y)) (.num 1)) := fun env _ => by
  show (x.val w env - y.val w env) % 2 ^ w = ((x.val w env + (-1 - y.val w env) % 2 ^ w) % 2 ^ w + 1 % 2 ^ w) % 2 ^ w
  rw [Int.add_emod_emod, Int.emod_add_emod, Int.add_right_comm, Int.add_emod_emod]
  exact congrArg (· % 2 ^ w) (by omega)
theorem eq_not : Eqv w (.un .not x) (bn .sub (.un .neg x) (.num 1)) := fun env _ => by
  show (-1 - x.val w env) % 2 ^ w = ((-x.val w env) % 2 ^ w - 1 % 2 ^ w) % 2 ^ w
  rw [Int.emod_sub_emod, Int.sub_emod_emod]
  exact congrArg (· % 2 ^ w) (by omega)
theorem eq_xor : Eqv w (bn .xor x y) (bn .sub (bn .or x y) (bn .and x y)) := fun env _ => by
  show Builtin.bitXor _ _ % 2 ^ w = (Builtin.bitOr _ _ % 2 ^ w - Builtin.bitAnd _ _ % 2 ^ w) % 2 ^ w
  rw [Int.emod_sub_emod, Int.sub_emod_emod]
  rfl
theorem eq_or (ox : x.Ok) (oy : y.Ok) : Eqv w (bn .or x y) (bn .sub (bn .add x y) (bn .and x y)) := fun env he => by
  show Builtin.bitOr _ _ % 2 ^ w = ((_ + _) % 2 ^ w - Builtin.bitAnd _ _ % 2 ^ w) % 2 ^ w
  rw [Int.emod_sub_emod, Int.sub_emod_emod, or_sum (x.wd he ox).1 (y.wd he oy).1]
theorem eq_add : Eqv w (bn .add x y) (bn .add (bn .xor x y) (.sh .left (bn .and x y) 1)) := fun env _ => by
  show (x.val w env + y.val w env) % 2 ^ w = (Builtin.bitXor (x.val w env) (y.val w env) % 2 ^ w + (Builtin.bitAnd (x.val w env) (y.val w env) % 2 ^ w * 2 ^ 1) % 2 ^ w) % 2 ^ w
  rw [emod_mul_emod', Int.emod_add_emod, Int.add_emod_emod, bitXor_and]
  exact congrArg (· % 2 ^ w) (by omega)
theorem eq_neg : Eqv w (.un .neg x) (bn .sub (.num 0) x) := fun env _ => by
  show (-x.val w env) % 2 ^ w = (0 % 2 ^ w - x.val w env) % 2 ^ w
  rw [Int.emod_sub_emod]
  exact congrArg (· % 2 ^ w) (by omega)
theorem eq_nand (ox : x.Ok) (oy : y.Ok) : Eqv w (.un .not (bn .and x y)) (bn .or (.un .not x) (.un .not y)) := fun env he => by
  have hx := x.wd he ox
  have hy := y.wd he oy
  show (-1 - Builtin.bitAnd (x.val w env) (y.val w env) % 2 ^ w) % 2 ^ w = Builtin.bitOr ((-1 - x.val w env) % 2 ^ w) ((-1 - y.val w env) % 2 ^ w) % 2 ^ w
  rw [val_mod (and_wd hx hy), (com_nat (and_wd hx hy)).2, (com_nat hx).2, (com_nat hy).2, not_and hx hy, val_mod (or_wd (com_nat hx).1 (com_nat hy).1)]
theorem eq_mulneg : Eqv w (bn .mul x (.un .neg y)) (.un .neg (bn .mul x y)) := fun env _ => by
  show (x.val w env * ((-y.val w env) % 2 ^ w)) % 2 ^ w = (-((x.val w env * y.val w env) % 2 ^ w)) % 2 ^ w
  rw [mul_emod_emod', neg_emod_emod, Int.mul_neg]
theorem eq_xand (ox : x.Ok) (oy : y.Ok) : Eqv w (bn .and (bn .xor x y) x) (bn .and x (.un .not y)) := fun env he => by
  have hx := x.wd he ox
  have hy := y.wd he oy
  show Builtin.bitAnd (Builtin.bitXor (x.val w env) (y.val w env) % 2 ^ w) (x.val w env) % 2 ^ w = Builtin.bitAnd (x.val w env) ((-1 - y.val w env) % 2 ^ w) % 2 ^ w
  rw [val_mod (xor_wd hx hy), (com_nat hy).2, xor_and hx hy]
theorem eq_mul : Eqv w (bn .mul x y) (bn .mul y x) := fun env _ => congrArg (· % 2 ^ w) (Int.mul_comm _ _)
theorem eq_left {a : Int} : Eqv w (.sh .left x a) (bn .mul x (.num (2 ^ a.toNat))) := fun env _ => by
  show (x.val w env * 2 ^ a.toNat) % 2 ^ w = (x.val w env * (2 ^ a.toNat % 2 ^ w)) % 2 ^ w
  rw [mul_emod_emod']
theorem eq_right {a : Int} : Eqv w (.sh .right x a) (.sh .quo x (2 ^ a.toNat)) := fun env _ => rfl
theorem eq_whole (ox : x.Ok) {d : Int} : Eqv w x (bn .add (bn .mul (.sh .quo x d) (.num d)) (.sh .rem x d)) := fun env he => by
  have hx := x.wd he ox
  show x.val w env = ((x.val w env / d * (d % 2 ^ w)) % 2 ^ w + x.val w env % d) % 2 ^ w
  rw [mul_emod_emod', Int.emod_add_emod, show x.val w env / d * d + x.val w env % d = x.val w env by have := Int.emod_add_mul_ediv (x.val w env) d; rw [Int.mul_comm] at this; omega, val_mod hx]
theorem eq_rem (ox : x.Ok) {d : Int} (hd : 1 ≤ d) : Eqv w (.sh .rem x d) (bn .sub x (bn .mul (.sh .quo x d) (.num d))) := fun env he => by
  have hx := x.wd he ox
  show x.val w env % d = (x.val w env - (x.val w env / d * (d % 2 ^ w)) % 2 ^ w) % 2 ^ w
  have h0 := Int.emod_nonneg (x.val w env) (by omega : d ≠ 0)
  have h1 := Int.emod_add_mul_ediv (x.val w env) d
  have h2 := Int.mul_nonneg (by omega : 0 ≤ d) (Int.ediv_nonneg hx.1 (by omega : 0 ≤ d))
  have hw : Wd w (x.val w env % d) := ⟨h0, by have := hx.2; omega⟩
  rw [Int.sub_emod_emod, ← Int.sub_emod_emod, mul_emod_emod', Int.sub_emod_emod, show x.val w env - x.val w env / d * d = x.val w env % d by rw [Int.mul_comm]; omega, val_mod hw]
theorem eq_low (ox : x.Ok) {a : Int} : Eqv w (.sh .rem x (2 ^ a.toNat)) (bn .and x (.num (2 ^ a.toNat - 1))) := fun env he => by
  have hx := x.wd he ox
  show x.val w env % 2 ^ a.toNat = Builtin.bitAnd (x.val w env) ((2 ^ a.toNat - 1) % 2 ^ w) % 2 ^ w
  have p1 := pow_pos2 a.toNat
  have p2 := pow_pos2 w
  have up : ∀ {i j : Nat}, i ≤ j → (2 : Int) ^ i ≤ 2 ^ j := fun {i j} h => by
    have h2 : (2 : Nat) ^ i ≤ 2 ^ j := Nat.pow_le_pow_right (by decide) h
    have h3 : ((2 ^ i : Nat) : Int) ≤ ((2 ^ j : Nat) : Int) := Int.ofNat_le.mpr h2
    rw [Int.natCast_pow, Int.natCast_pow] at h3
    exact h3
  by_cases h : a.toNat ≤ w
  · have h1 := up h
    have e : ((2 : Int) ^ a.toNat - 1) % 2 ^ w = 2 ^ a.toNat - 1 := Int.emod_eq_of_lt (by omega) (by omega)
    rw [e, and_mask hx.1, Int.emod_eq_of_lt mods.1 (by have := (mods (v := x.val w env) (k := a.toNat)).2; omega)]
  · have h1 := up (by omega : w ≤ a.toNat)
    have e : ((2 : Int) ^ a.toNat - 1) % 2 ^ w = 2 ^ w - 1 := by
      have e2 : (2 : Int) ^ a.toNat = 2 ^ w * 2 ^ (a.toNat - w) := by rw [← Int.pow_add, show w + (a.toNat - w) = a.toNat by omega]
      rw [e2, show (2 : Int) ^ w * 2 ^ (a.toNat - w) - 1 = (2 ^ w - 1) + 2 ^ w * (2 ^ (a.toNat - w) - 1) by rw [Int.mul_sub]; omega, Int.add_mul_emod_self_left]
      exact Int.emod_eq_of_lt (by omega) (by omega)
    rw [e, and_mask hx.1, val_mod hx, val_mod hx, Int.emod_eq_of_lt hx.1 (by have := hx.2; omega)]
theorem b01 {w : Nat} (hw : 1 ≤ w) (b : Bool) : (if b = true then (1 : Int) else 0) % 2 ^ w = if b = true then 1 else 0 := by
  cases b
  · exact Int.zero_emod _
  · exact one_mod hw
theorem pickT {b : Bool} {a c : Int} (h : b = true) : (if (if b = true then (1 : Int) else 0) ≠ 0 then a else c) = a := by rw [h]; rfl
theorem pickF {b : Bool} {a c : Int} (h : b = false) : (if (if b = true then (1 : Int) else 0) ≠ 0 then a else c) = c := by rw [h]; rfl
theorem eq_signed (ox : x.Ok) {a : Int} (hw : 1 ≤ w) : Eqv w (.sh .signed x a) (.pick (bn .less x (.num (2 ^ (w - 1)))) (.sh .right x a) (.un .not (.sh .right (.un .not x) a))) := fun env he => by
  have hx := x.wd he ox
  have p0 := pow_pos2 w
  have p1 := pow_pos2 (w - 1)
  have p3 := pow_pos2 a.toNat
  have hh : (2 : Int) ^ w = 2 * 2 ^ (w - 1) := by
    conv => lhs; rw [show w = (w - 1) + 1 by omega, Int.pow_succ]
    exact Int.mul_comm _ _
  show (sgn w (x.val w env) / 2 ^ a.toNat) % 2 ^ w = if ((if decide (x.val w env < 2 ^ (w - 1) % 2 ^ w) = true then (1 : Int) else 0) % 2 ^ w ≠ 0) then x.val w env / 2 ^ a.toNat else (-1 - ((-1 - x.val w env) % 2 ^ w) / 2 ^ a.toNat) % 2 ^ w
  rw [Int.emod_eq_of_lt (by omega : (0 : Int) ≤ 2 ^ (w - 1)) (by omega), (com_nat hx).2, b01 hw]
  unfold sgn
  have dv := ediv_le_self' hx.1 (m := 2 ^ a.toNat) (by omega)
  by_cases h : x.val w env < 2 ^ (w - 1)
  · rw [if_pos h, pickT (decide_eq_true h)]
    exact val_mod ⟨dv.1, Int.lt_of_le_of_lt dv.2 hx.2⟩
  · rw [if_neg h, pickF (decide_eq_false h)]
    refine congrArg (· % 2 ^ w) ?_
    have hn : 0 ≤ 2 ^ w - 1 - x.val w env := (com_nat hx).1.1
    generalize hm : 2 ^ w - 1 - x.val w env = m at hn
    obtain ⟨n, rfl⟩ := Int.eq_ofNat_of_zero_le hn
    rw [show x.val w env - 2 ^ w = Int.negSucc n by rw [Int.negSucc_eq]; omega, Int.negSucc_ediv n p3]
    show -((n : Int) / 2 ^ a.toNat + 1) = -1 - (n : Int) / 2 ^ a.toNat
    omega
theorem eq_three (hw : 1 ≤ w) : Eqv w (bn .sub (bn .sub (.num 1) (bn .less x y)) (bn .less y x)) (bn .same x y) := fun env he => by
  show (((1 % 2 ^ w - (if decide (x.val w env < y.val w env) = true then (1 : Int) else 0) % 2 ^ w) % 2 ^ w) - (if decide (y.val w env < x.val w env) = true then (1 : Int) else 0) % 2 ^ w) % 2 ^ w = (if decide (V.int (x.val w env) = V.int (y.val w env)) = true then (1 : Int) else 0) % 2 ^ w
  rw [b01 hw, b01 hw, one_mod hw, Int.emod_sub_emod]
  refine congrArg (· % 2 ^ w) ?_
  by_cases h : x.val w env = y.val w env
  · rw [decide_eq_false (by omega), decide_eq_false (by omega), decide_eq_true (congrArg V.int h)]
    rfl
  · rw [decide_eq_false (fun z => h (V.int.inj z))]
    by_cases h2 : x.val w env < y.val w env
    · rw [decide_eq_true h2, decide_eq_false (by omega)]
      rfl
    · rw [decide_eq_false h2, decide_eq_true (by omega)]
      rfl
theorem eq_least (hw : 1 ≤ w) : Eqv w (.pick (bn .less x y) x y) (.pick (bn .less y x) y x) := fun env he => by
  show (if (if decide (x.val w env < y.val w env) = true then (1 : Int) else 0) % 2 ^ w ≠ 0 then x.val w env else y.val w env) = (if (if decide (y.val w env < x.val w env) = true then (1 : Int) else 0) % 2 ^ w ≠ 0 then y.val w env else x.val w env)
  rw [b01 hw, b01 hw]
  by_cases h : x.val w env < y.val w env
  · rw [pickT (decide_eq_true h), pickF (decide_eq_false (by omega))]
  · rw [pickF (decide_eq_false h)]
    by_cases h2 : y.val w env < x.val w env
    · rw [pickT (decide_eq_true h2)]
    · rw [pickF (decide_eq_false h2)]
      omega
theorem eq_same (hw : 1 ≤ w) (ox : x.Ok) (oy : y.Ok) : Eqv w (bn .same (bn .xor x y) (.num 0)) (bn .same x y) := fun env he => by
  have hx := x.wd he ox
  have hy := y.wd he oy
  show (if decide (V.int (Builtin.bitXor (x.val w env) (y.val w env) % 2 ^ w) = V.int (0 % 2 ^ w)) = true then (1 : Int) else 0) % 2 ^ w = (if decide (V.int (x.val w env) = V.int (y.val w env)) = true then (1 : Int) else 0) % 2 ^ w
  rw [val_mod (xor_wd hx hy), Int.zero_emod]
  by_cases h : x.val w env = y.val w env
  · rw [decide_eq_true (congrArg V.int ((xor_eq0 hx hy).mpr h)), decide_eq_true (congrArg V.int h)]
  · rw [decide_eq_false (fun z => h ((xor_eq0 hx hy).mp (V.int.inj z))), decide_eq_false (fun z => h (V.int.inj z))]
theorem eq_both : Eqv w (.pick x y y) y := fun env he => by
  show (if x.val w env ≠ 0 then y.val w env else y.val w env) = y.val w env
  split <;> rfl
theorem eq_pick (hw : 1 ≤ w) : Eqv w (.pick x x y) (.pick (bn .same x (.num 0)) y x) := fun env he => by
  show (if x.val w env ≠ 0 then x.val w env else y.val w env) = (if (if decide (V.int (x.val w env) = V.int (0 % 2 ^ w)) = true then (1 : Int) else 0) % 2 ^ w ≠ 0 then y.val w env else x.val w env)
  rw [b01 hw, Int.zero_emod]
  by_cases h : x.val w env = 0
  · rw [if_neg (fun z => z h), pickT (decide_eq_true (congrArg V.int h))]
  · rw [if_pos h, pickF (decide_eq_false (fun z => h (V.int.inj z)))]
end
end Lw

set_option Elab.async false
set_option linter.all false
set_option maxRecDepth 100000
set_option maxHeartbeats 4000000
namespace Lw
open PySem PySem.Spec PyProof.Rows L2 Glay
/-- what is asked of the numbers by the way -/
local macro_rules | `(tactic| walk_at "side") => `(tactic| first
  | rfl
  | decide
  | assumption
  | omega
  | (unfold CMul; omega)
  | (unfold CPowW; exact ⟨by decide, by decide +kernel⟩)
  | exact wide_mul (a := 1400) (b := 1400) (by decide +kernel) (by decide +kernel) (by decide) (by decide) (by decide)
  | exact wide_div (b := 64) (by decide) (by decide) (by decide) (by decide)
  | (unfold CMul; exact Or.inr ⟨by decide, by decide⟩)
  | (unfold CMul; exact Or.inl ⟨by decide, by decide⟩)
  | (unfold CPow; omega)
  | (unfold CPow; refine ⟨by omega, by omega, ?_⟩; omega))
local macro_rules | `(tactic| walk_at "one") => `(tactic| with_reducible first
  | (refine' rd_var ?rdh ?_; (case rdh => with_unfolding_all exact rfl))
  | refine rd_c ?_
  | refine rd_op ?_
  | refine rd_un ?_
  | refine rd_I0 ?_
  | refine rd_I (by walk_at "side") ?_
  | refine rd_U ?_
  | refine rd_seq ?_
  | refine rd_next ?_
  | refine rd_asg ?_
  | refine rd_name ?_
  | refine rd_par ?_
  | refine rd_par2 ?_
  | refine rd_ret ?_
  | refine rd_ifs ?_
  | refine rd_if ?_
  | refine rd_test ?_
  | refine rd_B ?_
  | refine rd_not ?_
  | refine rd_and ?_
  | refine rd_or ?_
  | refine rd_andV ?_
  | refine rd_orV ?_
  | refine rd_notV ?_
  | refine rd_chain ?_
  | refine rd_k ?_
  | refine rd_eq (by with_unfolding_all rfl) ?_
  | refine rd_ne (by with_unfolding_all rfl) ?_
  | refine rd_call ?_
  | refine rd_cb ?_
  | refine rd_nil ?_
  | refine rd_cons ?_
  | refine rd_lst ?_
  | refine rd_gcons ?_
  | refine rd_gnil ?_
  | refine rd_sub ?_
  | (refine' rd_ixL (SqL.of (by assumption)) ?rde ?_; (case rde => with_unfolding_all exact rfl))
  | refine rd_intI ?_
  | refine rd_intB ?_
  | refine rd_abs ?_
  | refine rd_sl ?_
  | refine rd_nopart ?_
  | refine rd_part ?_
  | refine rd_pi ?_
  | refine rd_nt ?_
  | refine rd_nf ?_
  | refine rd_t ?_
  | refine rd_f ?_
  | refine rd_for ?_
  | refine rd_max2 ?_
  | refine rd_izip ?_
  | refine rd_min2 ?_
  | (refine' rd_in (SqT.of (by assumption)) ?rdf ?rda ?_; (case rdf => with_unfolding_all rfl); (case rda => with_unfolding_all rfl))
  | refine rd_lc ?_
  | refine rd_itup ?_
  | refine rd_tyes ?_
  | (refine' rd_ixT (SqT.of (by assumption)) ?rde ?_; (case rde => first | exact at_head | with_unfolding_all exact rfl))
  | refine rd_ilist ?_
  | refine rd_irng ?_
  | refine rd_tup ?_)
local macro_rules | `(tactic| walk_at "rd") => `(tactic| repeat walk_at "one")
/-- one of two ways, by a written text -/
local macro_rules | `(tactic| walk_at "br") => `(tactic| first
  | refine rd_yes (by decide +kernel) ?_
  | refine rd_no (by decide +kernel) ?_
  | refine rd_yesN (by decide +kernel) ?_
  | refine rd_noN (by decide +kernel) ?_
  | refine rd_brT (by decide +kernel) ?_
  | refine rd_brF (by decide +kernel) ?_)
local macro_rules | `(tactic| walk_at "go") => `(tactic| repeat (first | walk_at "one" | walk_at "br"))
theorem tups_lst {H : Hp} {p : Addr} {us vs : List V} (h : H p = some (.lst us)) : Tups H (upd H p (.lst vs)) := fun a xs ha => by
  rw [upd_ne (ne_of ha h (by intro z; cases z))]
  exact ha
/-! ### pairs of expressions that are equal at all words -/
def Pr (w : Nat) (H : Hp) (u : V) : Prop := ∃ (p : Addr) (v1 v2 : V) (e1 e2 : Ex), u = .ref p ∧ H p = some (.tup [v1, v2]) ∧ Rep H e1 v1 ∧ Rep H e2 v2 ∧ e1.Ok ∧ e2.Ok ∧ e1.depth ≤ 90 ∧ e2.depth ≤ 90 ∧ Eqv w e1 e2
theorem Pr.mono {w : Nat} {H H' : Hp} {u : V} (t : Tups H H') : Pr w H u → Pr w H' u := fun ⟨p, v1, v2, e1, e2, h, hp, r1, r2, z⟩ => ⟨p, v1, v2, e1, e2, h, t _ _ hp, r1.mono t, r2.mono t, z⟩
structure PB (w : Nat) (H : Hp) (p : Addr) (us : List V) : Prop where
  here : H p = some (.lst us)
  all : ∀ u ∈ us, Pr w H u
theorem PB.same {w : Nat} {H H' : Hp} {p : Addr} {us : List V} (f : PB w H p us) (s : Same H H') : PB w H' p us := ⟨s _ _ f.here, fun u h => (f.all u h).mono (Tups.of s)⟩
theorem PB.cat {w : Nat} {H H' : Hp} {p p2 p3 : Addr} {us vs : List V} (f : PB w H p us) (g : PB w H p2 vs) (n : New H p3 (.lst (us ++ vs)) H') : PB w H' p3 (us ++ vs) := ⟨n.here, fun u h => by
  rcases List.mem_append.mp h with h | h
  · exact (f.all u h).mono (Tups.of n.same)
  · exact (g.all u h).mono (Tups.of n.same)⟩
theorem PB.app {w : Nat} {H : Hp} {p : Addr} {us : List V} {u : V} (f : PB w H p us) (h : Pr w H u) : PB w (upd H p (.lst (us ++ [u]))) p (us ++ [u]) := ⟨upd_same, fun v hv => by
  rcases List.mem_append.mp hv with k | k
  · exact (f.all v k).mono (tups_lst f.here)
  · rw [List.mem_singleton.mp k]
    exact h.mono (tups_lst f.here)⟩
def sp_sums : Sp := fun vs H Q _ => ∃ (vx vy : V) (ex ey : Ex) (w : Nat), vs = [vx, vy] ∧ Rep H ex vx ∧ Rep H ey vy ∧ ex.Ok ∧ ey.Ok ∧ ex.depth ≤ 80 ∧ ey.depth ≤ 80 ∧ 1 ≤ w ∧ ∀ H' p us, H p = none → PB w H' p us → us.length = 10 → Same H H' → Q (.ref p) H'
def sp_divisions : Sp := fun vs H Q _ => ∃ (vx : V) (ex : Ex) (a d : Int) (w : Nat), vs = [vx, .int a, .int d] ∧ Rep H ex vx ∧ ex.Ok ∧ ex.depth ≤ 80 ∧ 1 ≤ w ∧ (0 ≤ a ∧ a ≤ 63) ∧ (1 ≤ d ∧ d < 2 ^ 64) ∧ ∀ H' p us, H p = none → PB w H' p us → us.length = 5 → Same H H' → Q (.ref p) H'
def sp_choices : Sp := fun vs H Q _ => ∃ (vx vy : V) (ex ey : Ex) (a k : Int), vs = [vx, vy, .int a, .int k] ∧ Rep H ex vx ∧ Rep H ey vy ∧ ex.Ok ∧ ey.Ok ∧ ex.depth ≤ 80 ∧ ey.depth ≤ 80 ∧ 1 ≤ k ∧ k ≤ 64 ∧ (0 ≤ a ∧ a ≤ 63) ∧
  ∀ H' p us, H p = none → PB k.toNat H' p us → us.length = 6 → Same H H' → Q (.ref p) H'
section
variable {P : Program} {w0 : World} {K : PySem.W.Frag} {mg : Str → Option Value} {base : Heap} {f : Addr} {fd : FuncData}
theorem ok_sums (T : Top mg) (F : Fun K "_law_sums" "_law_sums" s__law_sums f fd) : FnOk P w0 K mg base CX0 1 f fd ["_law_x", "_law_y"] sp_sums := by
  refine F.ok sc__law_sums (fun vs H Q E h => ?_) (fun cdv A outer s H vs Q E hr h => ?_)
  · obtain ⟨vx, vy, ex, ey, w, rfl, _⟩ := h
    rfl
  · obtain ⟨vx, vy, ex, ey, w, rfl, rx, ry, ox, oy, dx, dy, hw, q⟩ := h
    refine ⟨_, (pss_cons (ps_set (i := 2) sc__law_sums.nd rfl (by first | exact Or.inl rfl | exact Or.inr rfl) (pe_tup (pa_cons pe_str (pa_cons (pv 0) (pa_cons (pv 1) pa_nil)))))
      (pss_cons (ps_set (i := 3) sc__law_sums.nd rfl (by first | exact Or.inl rfl | exact Or.inr rfl) (pe_lst (pa_cons (pe_tup (pa_cons (pe_tup (pa_cons pe_str (pa_cons (pv 0) (pa_cons (pv 1) pa_nil)))) (pa_cons (pe_tup (pa_cons pe_str (pa_cons (pe_tup (pa_cons pe_str (pa_cons (pv 0) (pa_cons (pe_tup (pa_cons pe_str (pa_cons (pv 1) pa_nil))) pa_nil)))) (pa_cons (pe_tup (pa_cons pe_str (pa_cons pe_int pa_nil))) pa_nil)))) pa_nil))) pa_nil)))
      (pss_cons (ps_expr (pe_bm PySem.F.plainAttrs_list PySem.F.slot_list_append PySem.F.type_list_append mt_append (pv 3) (pa_cons (pe_tup (pa_cons (pe_tup (pa_cons pe_str (pa_cons (pv 0) pa_nil))) (pa_cons (pe_tup (pa_cons pe_str (pa_cons (pe_tup (pa_cons pe_str (pa_cons (pv 0) pa_nil))) (pa_cons (pe_tup (pa_cons pe_str (pa_cons pe_int pa_nil))) pa_nil)))) pa_nil))) pa_nil)))
      (pss_cons (ps_expr (pe_bm PySem.F.plainAttrs_list PySem.F.slot_list_append PySem.F.type_list_append mt_append (pv 3) (pa_cons (pe_tup (pa_cons (pe_tup (pa_cons pe_str (pa_cons (pv 0) (pa_cons (pv 1) pa_nil)))) (pa_cons (pe_tup (pa_cons pe_str (pa_cons (pe_tup (pa_cons pe_str (pa_cons (pv 0) (pa_cons (pv 1) pa_nil)))) (pa_cons (pv 2) pa_nil)))) pa_nil))) pa_nil)))
      (pss_cons (ps_expr (pe_bm PySem.F.plainAttrs_list PySem.F.slot_list_append PySem.F.type_list_append mt_append (pv 3) (pa_cons (pe_tup (pa_cons (pe_tup (pa_cons pe_str (pa_cons (pv 0) (pa_cons (pv 1) pa_nil)))) (pa_cons (pe_tup (pa_cons pe_str (pa_cons (pe_tup (pa_cons pe_str (pa_cons (pv 0) (pa_cons (pv 1) pa_nil)))) (pa_cons (pv 2) pa_nil)))) pa_nil))) pa_nil)))
      (pss_cons (ps_expr (pe_bm PySem.F.plainAttrs_list PySem.F.slot_list_append PySem.F.type_list_append mt_append (pv 3) (pa_cons (pe_tup (pa_cons (pe_tup (pa_cons pe_str (pa_cons (pv 0) (pa_cons (pv 1) pa_nil)))) (pa_cons (pe_tup (pa_cons pe_str (pa_cons (pe_tup (pa_cons pe_str (pa_cons (pv 0) (pa_cons (pv 1) pa_nil)))) (pa_cons (pe_tup (pa_cons pe_str (pa_cons (pv 2) (pa_cons pe_int pa_nil)))) pa_nil)))) pa_nil))) pa_nil)))
      (pss_cons (ps_expr (pe_bm PySem.F.plainAttrs_list PySem.F.slot_list_append PySem.F.type_list_append mt_append (pv 3) (pa_cons (pe_tup (pa_cons (pe_tup (pa_cons pe_str (pa_cons (pv 0) pa_nil))) (pa_cons (pe_tup (pa_cons pe_str (pa_cons (pe_tup (pa_cons pe_str (pa_cons pe_int pa_nil))) (pa_cons (pv 0) pa_nil)))) pa_nil))) pa_nil)))
      (pss_cons (ps_expr (pe_bm PySem.F.plainAttrs_list PySem.F.slot_list_append PySem.F.type_list_append mt_append (pv 3) (pa_cons (pe_tup (pa_cons (pe_tup (pa_cons pe_str (pa_cons (pv 2) pa_nil))) (pa_cons (pe_tup (pa_cons pe_str (pa_cons (pe_tup (pa_cons pe_str (pa_cons (pv 0) pa_nil))) (pa_cons (pe_tup (pa_cons pe_str (pa_cons (pv 1) pa_nil))) pa_nil)))) pa_nil))) pa_nil)))
      (pss_cons (ps_expr (pe_bm PySem.F.plainAttrs_list PySem.F.slot_list_append PySem.F.type_list_append mt_append (pv 3) (pa_cons (pe_tup (pa_cons (pe_tup (pa_cons pe_str (pa_cons (pv 0) (pa_cons (pe_tup (pa_cons pe_str (pa_cons (pv 1) pa_nil))) pa_nil)))) (pa_cons (pe_tup (pa_cons pe_str (pa_cons (pe_tup (pa_cons pe_str (pa_cons (pv 0) (pa_cons (pv 1) pa_nil)))) pa_nil))) pa_nil))) pa_nil)))
      (pss_cons (ps_expr (pe_bm PySem.F.plainAttrs_list PySem.F.slot_list_append PySem.F.type_list_append mt_append (pv 3) (pa_cons (pe_tup (pa_cons (pe_tup (pa_cons pe_str (pa_cons (pe_tup (pa_cons pe_str (pa_cons (pv 0) (pa_cons (pv 1) pa_nil)))) (pa_cons (pv 0) pa_nil)))) (pa_cons (pe_tup (pa_cons pe_str (pa_cons (pv 0) (pa_cons (pe_tup (pa_cons pe_str (pa_cons (pv 1) pa_nil))) pa_nil)))) pa_nil))) pa_nil)))
      (pss_one (ps_ret (pe_op op_cat (pv 3) (pe_lst (pa_cons (pe_tup (pa_cons (pe_tup (pa_cons pe_str (pa_cons (pv 0) (pa_cons (pv 1) pa_nil)))) (pa_cons (pe_tup (pa_cons pe_str (pa_cons (pv 1) (pa_cons (pv 0) pa_nil)))) pa_nil))) pa_nil))))))))))))))), ?_⟩
    have f0 : Same H H := Same.refl H
    walk_at "rd"
    refine rd_newT (by show 3 ≤ 1000; decide) fun p1 H1 n1 => ?_
    have q1 := Tups.of n1.same
    have rx := rx.mono q1
    have ry := ry.mono q1
    have f1 := f0.trans n1.same
    have r1 : Rep H1 (bn .and ex ey) (.ref p1) := ⟨p1, _, _, rfl, n1.here, rx, ry⟩
    walk_at "rd"
    refine rd_newT (by show 3 ≤ 1000; decide) fun p2 H2 n2 => ?_
    have q2 := Tups.of n2.same
    have rx := rx.mono q2
    have ry := ry.mono q2
    have r1 := r1.mono q2
    have f2 := f1.trans n2.same
    have r2 : Rep H2 (bn .sub ex ey) (.ref p2) := ⟨p2, _, _, rfl, n2.here, rx, ry⟩
    walk_at "rd"
    refine rd_newT (by show 2 ≤ 1000; decide) fun p3 H3 n3 => ?_
    have q3 := Tups.of n3.same
    have rx := rx.mono q3
    have ry := ry.mono q3
    have r1 := r1.mono q3
    have r2 := r2.mono q3
    have f3 := f2.trans n3.same
    have r3 : Rep H3 (.un .not ey) (.ref p3) := ⟨p3, _, rfl, n3.here, ry⟩
    walk_at "rd"
    refine rd_newT (by show 3 ≤ 1000; decide) fun p4 H4 n4 => ?_
    have q4 := Tups.of n4.same
    have rx := rx.mono q4
    have ry := ry.mono q4
    have r1 := r1.mono q4
    have r2 := r2.mono q4
    have r3 := r3.mono q4
    have f4 := f3.trans n4.same
    have r4 : Rep H4 (bn .add ex (.un .not ey)) (.ref p4) := ⟨p4, _, _, rfl, n4.here, rx, r3⟩
    walk_at "rd"
    refine rd_newT (by show 2 ≤ 1000; decide) fun p5 H5 n5 => ?_
    have q5 := Tups.of n5.same
    have rx := rx.mono q5
    have ry := ry.mono q5
    have r1 := r1.mono q5
    have r2 := r2.mono q5
    have r3 := r3.mono q5
    have r4 := r4.mono q5
    have f5 := f4.trans n5.same
    have r5 : Rep H5 (.num (1)) (.ref p5) := ⟨p5, rfl, n5.here⟩
    walk_at "rd"
    refine rd_newT (by show 3 ≤ 1000; decide) fun p6 H6 n6 => ?_
    have q6 := Tups.of n6.same
    have rx := rx.mono q6
    have ry := ry.mono q6
    have r1 := r1.mono q6
    have r2 := r2.mono q6
    have r3 := r3.mono q6
    have r4 := r4.mono q6
    have r5 := r5.mono q6
    have f6 := f5.trans n6.same
    have r6 : Rep H6 (bn .add (bn .add ex (.un .not ey)) (.num (1))) (.ref p6) := ⟨p6, _, _, rfl, n6.here, r4, r5⟩
    walk_at "rd"
    refine rd_newT (by show 2 ≤ 1000; decide) fun p7 H7 n7 => ?_
    have q7 := Tups.of n7.same
    have rx := rx.mono q7
    have ry := ry.mono q7
    have r1 := r1.mono q7
    have r2 := r2.mono q7
    have r3 := r3.mono q7
    have r4 := r4.mono q7
    have r5 := r5.mono q7
    have r6 := r6.mono q7
    have f7 := f6.trans n7.same
    have g : Pr w H7 (.ref p7) := ⟨p7, _, _, (bn .sub ex ey), (bn .add (bn .add ex (.un .not ey)) (.num (1))), rfl, n7.here, r2, r6, ⟨ox, oy⟩, ⟨⟨ox, oy⟩, ⟨by decide, by decide⟩⟩, (by first | omega | (simp only [bn, Ex.depth]; omega)), (by first | omega | (simp only [bn, Ex.depth]; omega)), eq_sub⟩
    walk_at "rd"
    refine rd_new (by show 1 ≤ 1000; decide) fun p8 H8 n8 => ?_
    have q8 := Tups.of n8.same
    have rx := rx.mono q8
    have ry := ry.mono q8
    have r1 := r1.mono q8
    have f8 := f7.trans n8.same
    have g := g.mono q8
    have b : PB w H8 p8 [.ref p7] := ⟨n8.here, fun u hu => by rw [List.mem_singleton.mp hu]; exact g⟩
    have free : H p8 = none := f7.free n8.free
    have l : [V.ref p7].length = 1 := rfl
    generalize [V.ref p7] = us at b l n8
    walk_at "rd"
    refine rd_drop ?_
    refine rd_app rfl b.here ?_
    walk_at "rd"
    refine rd_newT (by show 2 ≤ 1000; decide) fun p9 H9 n9 => ?_
    have q9 := Tups.of n9.same
    have rx := rx.mono q9
    have ry := ry.mono q9
    have r1 := r1.mono q9
    have f9 := f8.trans n9.same
    have b := b.same n9.same
    have r9 : Rep H9 (.un .not ex) (.ref p9) := ⟨p9, _, rfl, n9.here, rx⟩
    walk_at "rd"
    refine rd_newT (by show 2 ≤ 1000; decide) fun p10 H10 n10 => ?_
    have q10 := Tups.of n10.same
    have rx := rx.mono q10
    have ry := ry.mono q10
    have r1 := r1.mono q10
    have r9 := r9.mono q10
    have f10 := f9.trans n10.same
    have b := b.same n10.same
    have r10 : Rep H10 (.un .neg ex) (.ref p10) := ⟨p10, _, rfl, n10.here, rx⟩
    walk_at "rd"
    refine rd_newT (by show 2 ≤ 1000; decide) fun p11 H11 n11 => ?_
    have q11 := Tups.of n11.same
    have rx := rx.mono q11
    have ry := ry.mono q11
    have r1 := r1.mono q11
    have r9 := r9.mono q11
    have r10 := r10.mono q11
    have f11 := f10.trans n11.same
    have b := b.same n11.same
    have r11 : Rep H11 (.num (1)) (.ref p11) := ⟨p11, rfl, n11.here⟩
    walk_at "rd"
    refine rd_newT (by show 3 ≤ 1000; decide) fun p12 H12 n12 => ?_
    have q12 := Tups.of n12.same
    have rx := rx.mono q12
    have ry := ry.mono q12
    have r1 := r1.mono q12
    have r9 := r9.mono q12
    have r10 := r10.mono q12
    have r11 := r11.mono q12
    have f12 := f11.trans n12.same
    have b := b.same n12.same
    have r12 : Rep H12 (bn .sub (.un .neg ex) (.num (1))) (.ref p12) := ⟨p12, _, _, rfl, n12.here, r10, r11⟩
    walk_at "rd"
    refine rd_newT (by show 2 ≤ 1000; decide) fun p13 H13 n13 => ?_
    have q13 := Tups.of n13.same
    have rx := rx.mono q13
    have ry := ry.mono q13
    have r1 := r1.mono q13
    have r9 := r9.mono q13
    have r10 := r10.mono q13
    have r11 := r11.mono q13
    have r12 := r12.mono q13
    have f13 := f12.trans n13.same
    have b := b.same n13.same
    have g : Pr w H13 (.ref p13) := ⟨p13, _, _, (.un .not ex), (bn .sub (.un .neg ex) (.num (1))), rfl, n13.here, r9, r12, ox, ⟨ox, ⟨by decide, by decide⟩⟩, (by first | omega | (simp only [bn, Ex.depth]; omega)), (by first | omega | (simp only [bn, Ex.depth]; omega)), eq_not⟩
    refine rd_app2 b.here (by omega) ?_
    have q := tups_lst (vs := us ++ [V.ref p13]) b.here
    have rx := rx.mono q
    have ry := ry.mono q
    have r1 := r1.mono q
    have b := b.app g
    have f14 : Same H (upd H13 p8 (.lst (us ++ [V.ref p13]))) := fun b o hb => by rw [upd_ne (ne_of_none hb free)]; exact f13 _ _ hb
    have l : (us ++ [V.ref p13]).length = 2 := by rw [List.length_append, l]; rfl
    clear q
    generalize upd H13 p8 (.lst (us ++ [V.ref p13])) = H14 at b f14 rx ry r1
    generalize us ++ [V.ref p13] = us at b l
    walk_at "rd"
    refine rd_drop ?_
    refine rd_app rfl b.here ?_
    walk_at "rd"
    refine rd_newT (by show 3 ≤ 1000; decide) fun p15 H15 n15 => ?_
    have q15 := Tups.of n15.same
    have rx := rx.mono q15
    have ry := ry.mono q15
    have r1 := r1.mono q15
    have f15 := f14.trans n15.same
    have b := b.same n15.same
    have r15 : Rep H15 (bn .xor ex ey) (.ref p15) := ⟨p15, _, _, rfl, n15.here, rx, ry⟩
    walk_at "rd"
    refine rd_newT (by show 3 ≤ 1000; decide) fun p16 H16 n16 => ?_
    have q16 := Tups.of n16.same
    have rx := rx.mono q16
    have ry := ry.mono q16
    have r1 := r1.mono q16
    have r15 := r15.mono q16
    have f16 := f15.trans n16.same
    have b := b.same n16.same
    have r16 : Rep H16 (bn .or ex ey) (.ref p16) := ⟨p16, _, _, rfl, n16.here, rx, ry⟩
    walk_at "rd"
    refine rd_newT (by show 3 ≤ 1000; decide) fun p17 H17 n17 => ?_
    have q17 := Tups.of n17.same
    have rx := rx.mono q17
    have ry := ry.mono q17
    have r1 := r1.mono q17
    have r15 := r15.mono q17
    have r16 := r16.mono q17
    have f17 := f16.trans n17.same
    have b := b.same n17.same
    have r17 : Rep H17 (bn .sub (bn .or ex ey) (bn .and ex ey)) (.ref p17) := ⟨p17, _, _, rfl, n17.here, r16, r1⟩
    walk_at "rd"
    refine rd_newT (by show 2 ≤ 1000; decide) fun p18 H18 n18 => ?_
    have q18 := Tups.of n18.same
    have rx := rx.mono q18
    have ry := ry.mono q18
    have r1 := r1.mono q18
    have r15 := r15.mono q18
    have r16 := r16.mono q18
    have r17 := r17.mono q18
    have f18 := f17.trans n18.same
    have b := b.same n18.same
    have g : Pr w H18 (.ref p18) := ⟨p18, _, _, (bn .xor ex ey), (bn .sub (bn .or ex ey) (bn .and ex ey)), rfl, n18.here, r15, r17, ⟨ox, oy⟩, ⟨⟨ox, oy⟩, ⟨ox, oy⟩⟩, (by first | omega | (simp only [bn, Ex.depth]; omega)), (by first | omega | (simp only [bn, Ex.depth]; omega)), eq_xor⟩
    refine rd_app2 b.here (by omega) ?_
    have q := tups_lst (vs := us ++ [V.ref p18]) b.here
    have rx := rx.mono q
    have ry := ry.mono q
    have r1 := r1.mono q
    have b := b.app g
    have f19 : Same H (upd H18 p8 (.lst (us ++ [V.ref p18]))) := fun b o hb => by rw [upd_ne (ne_of_none hb free)]; exact f18 _ _ hb
    have l : (us ++ [V.ref p18]).length = 3 := by rw [List.length_append, l]; rfl
    clear q
    generalize upd H18 p8 (.lst (us ++ [V.ref p18])) = H19 at b f19 rx ry r1
    generalize us ++ [V.ref p18] = us at b l
    walk_at "rd"
    refine rd_drop ?_
    refine rd_app rfl b.here ?_
    walk_at "rd"
    refine rd_newT (by show 3 ≤ 1000; decide) fun p20 H20 n20 => ?_
    have q20 := Tups.of n20.same
    have rx := rx.mono q20
    have ry := ry.mono q20
    have r1 := r1.mono q20
    have f20 := f19.trans n20.same
    have b := b.same n20.same
    have r20 : Rep H20 (bn .or ex ey) (.ref p20) := ⟨p20, _, _, rfl, n20.here, rx, ry⟩
    walk_at "rd"
    refine rd_newT (by show 3 ≤ 1000; decide) fun p21 H21 n21 => ?_
    have q21 := Tups.of n21.same
    have rx := rx.mono q21
    have ry := ry.mono q21
    have r1 := r1.mono q21
    have r20 := r20.mono q21
    have f21 := f20.trans n21.same
    have b := b.same n21.same
    have r21 : Rep H21 (bn .add ex ey) (.ref p21) := ⟨p21, _, _, rfl, n21.here, rx, ry⟩
    walk_at "rd"
    refine rd_newT (by show 3 ≤ 1000; decide) fun p22 H22 n22 => ?_
    have q22 := Tups.of n22.same
    have rx := rx.mono q22
    have ry := ry.mono q22
    have r1 := r1.mono q22
    have r20 := r20.mono q22
    have r21 := r21.mono q22
    have f22 := f21.trans n22.same
    have b := b.same n22.same
    have r22 : Rep H22 (bn .sub (bn .add ex ey) (bn .and ex ey)) (.ref p22) := ⟨p22, _, _, rfl, n22.here, r21, r1⟩
    walk_at "rd"
    refine rd_newT (by show 2 ≤ 1000; decide) fun p23 H23 n23 => ?_
    have q23 := Tups.of n23.same
    have rx := rx.mono q23
    have ry := ry.mono q23
    have r1 := r1.mono q23
    have r20 := r20.mono q23
    have r21 := r21.mono q23
    have r22 := r22.mono q23
    have f23 := f22.trans n23.same
    have b := b.same n23.same
    have g : Pr w H23 (.ref p23) := ⟨p23, _, _, (bn .or ex ey), (bn .sub (bn .add ex ey) (bn .and ex ey)), rfl, n23.here, r20, r22, ⟨ox, oy⟩, ⟨⟨ox, oy⟩, ⟨ox, oy⟩⟩, (by first | omega | (simp only [bn, Ex.depth]; omega)), (by first | omega | (simp only [bn, Ex.depth]; omega)), eq_or ox oy⟩
    refine rd_app2 b.here (by omega) ?_
    have q := tups_lst (vs := us ++ [V.ref p23]) b.here
    have rx := rx.mono q
    have ry := ry.mono q
    have r1 := r1.mono q
    have b := b.app g
    have f24 : Same H (upd H23 p8 (.lst (us ++ [V.ref p23]))) := fun b o hb => by rw [upd_ne (ne_of_none hb free)]; exact f23 _ _ hb
    have l : (us ++ [V.ref p23]).length = 4 := by rw [List.length_append, l]; rfl
    clear q
    generalize upd H23 p8 (.lst (us ++ [V.ref p23])) = H24 at b f24 rx ry r1
    generalize us ++ [V.ref p23] = us at b l
    walk_at "rd"
    refine rd_drop ?_
    refine rd_app rfl b.here ?_
    walk_at "rd"
    refine rd_newT (by show 3 ≤ 1000; decide) fun p25 H25 n25 => ?_
    have q25 := Tups.of n25.same
    have rx := rx.mono q25
    have ry := ry.mono q25
    have r1 := r1.mono q25
    have f25 := f24.trans n25.same
    have b := b.same n25.same
    have r25 : Rep H25 (bn .add ex ey) (.ref p25) := ⟨p25, _, _, rfl, n25.here, rx, ry⟩
    walk_at "rd"
    refine rd_newT (by show 3 ≤ 1000; decide) fun p26 H26 n26 => ?_
    have q26 := Tups.of n26.same
    have rx := rx.mono q26
    have ry := ry.mono q26
    have r1 := r1.mono q26
    have r25 := r25.mono q26
    have f26 := f25.trans n26.same
    have b := b.same n26.same
    have r26 : Rep H26 (bn .xor ex ey) (.ref p26) := ⟨p26, _, _, rfl, n26.here, rx, ry⟩
    walk_at "rd"
    refine rd_newT (by show 3 ≤ 1000; decide) fun p27 H27 n27 => ?_
    have q27 := Tups.of n27.same
    have rx := rx.mono q27
    have ry := ry.mono q27
    have r1 := r1.mono q27
    have r25 := r25.mono q27
    have r26 := r26.mono q27
    have f27 := f26.trans n27.same
    have b := b.same n27.same
    have r27 : Rep H27 (.sh .left (bn .and ex ey) (1)) (.ref p27) := ⟨p27, _, rfl, n27.here, r1⟩
    walk_at "rd"
    refine rd_newT (by show 3 ≤ 1000; decide) fun p28 H28 n28 => ?_
    have q28 := Tups.of n28.same
    have rx := rx.mono q28
    have ry := ry.mono q28
    have r1 := r1.mono q28
    have r25 := r25.mono q28
    have r26 := r26.mono q28
    have r27 := r27.mono q28
    have f28 := f27.trans n28.same
    have b := b.same n28.same
    have r28 : Rep H28 (bn .add (bn .xor ex ey) (.sh .left (bn .and ex ey) (1))) (.ref p28) := ⟨p28, _, _, rfl, n28.here, r26, r27⟩
    walk_at "rd"
    refine rd_newT (by show 2 ≤ 1000; decide) fun p29 H29 n29 => ?_
    have q29 := Tups.of n29.same
    have rx := rx.mono q29
    have ry := ry.mono q29
    have r1 := r1.mono q29
    have r25 := r25.mono q29
    have r26 := r26.mono q29
    have r27 := r27.mono q29
    have r28 := r28.mono q29
    have f29 := f28.trans n29.same
    have b := b.same n29.same
    have g : Pr w H29 (.ref p29) := ⟨p29, _, _, (bn .add ex ey), (bn .add (bn .xor ex ey) (.sh .left (bn .and ex ey) (1))), rfl, n29.here, r25, r28, ⟨ox, oy⟩, ⟨⟨ox, oy⟩, ⟨⟨ox, oy⟩, (show (0 : Int) ≤ 1 ∧ (1 : Int) ≤ 63 from ⟨by decide, by decide⟩)⟩⟩, (by first | omega | (simp only [bn, Ex.depth]; omega)), (by first | omega | (simp only [bn, Ex.depth]; omega)), eq_add⟩
    refine rd_app2 b.here (by omega) ?_
    have q := tups_lst (vs := us ++ [V.ref p29]) b.here
    have rx := rx.mono q
    have ry := ry.mono q
    have r1 := r1.mono q
    have b := b.app g
    have f30 : Same H (upd H29 p8 (.lst (us ++ [V.ref p29]))) := fun b o hb => by rw [upd_ne (ne_of_none hb free)]; exact f29 _ _ hb
    have l : (us ++ [V.ref p29]).length = 5 := by rw [List.length_append, l]; rfl
    clear q
    generalize upd H29 p8 (.lst (us ++ [V.ref p29])) = H30 at b f30 rx ry r1
    generalize us ++ [V.ref p29] = us at b l
    walk_at "rd"
    refine rd_drop ?_
    refine rd_app rfl b.here ?_
    walk_at "rd"
    refine rd_newT (by show 2 ≤ 1000; decide) fun p31 H31 n31 => ?_
    have q31 := Tups.of n31.same
    have rx := rx.mono q31
    have ry := ry.mono q31
    have r1 := r1.mono q31
    have f31 := f30.trans n31.same
    have b := b.same n31.same
    have r31 : Rep H31 (.un .neg ex) (.ref p31) := ⟨p31, _, rfl, n31.here, rx⟩
    walk_at "rd"
    refine rd_newT (by show 2 ≤ 1000; decide) fun p32 H32 n32 => ?_
    have q32 := Tups.of n32.same
    have rx := rx.mono q32
    have ry := ry.mono q32
    have r1 := r1.mono q32
    have r31 := r31.mono q32
    have f32 := f31.trans n32.same
    have b := b.same n32.same
    have r32 : Rep H32 (.num (0)) (.ref p32) := ⟨p32, rfl, n32.here⟩
    walk_at "rd"
    refine rd_newT (by show 3 ≤ 1000; decide) fun p33 H33 n33 => ?_
    have q33 := Tups.of n33.same
    have rx := rx.mono q33
    have ry := ry.mono q33
    have r1 := r1.mono q33
    have r31 := r31.mono q33
    have r32 := r32.mono q33
    have f33 := f32.trans n33.same
    have b := b.same n33.same
    have r33 : Rep H33 (bn .sub (.num (0)) ex) (.ref p33) := ⟨p33, _, _, rfl, n33.here, r32, rx⟩
    walk_at "rd"
    refine rd_newT (by show 2 ≤ 1000; decide) fun p34 H34 n34 => ?_
    have q34 := Tups.of n34.same
    have rx := rx.mono q34
    have ry := ry.mono q34
    have r1 := r1.mono q34
    have r31 := r31.mono q34
    have r32 := r32.mono q34
    have r33 := r33.mono q34
    have f34 := f33.trans n34.same
    have b := b.same n34.same
    have g : Pr w H34 (.ref p34) := ⟨p34, _, _, (.un .neg ex), (bn .sub (.num (0)) ex), rfl, n34.here, r31, r33, ox, ⟨⟨by decide, by decide⟩, ox⟩, (by first | omega | (simp only [bn, Ex.depth]; omega)), (by first | omega | (simp only [bn, Ex.depth]; omega)), eq_neg⟩
    refine rd_app2 b.here (by omega) ?_
    have q := tups_lst (vs := us ++ [V.ref p34]) b.here
    have rx := rx.mono q
    have ry := ry.mono q
    have r1 := r1.mono q
    have b := b.app g
    have f35 : Same H (upd H34 p8 (.lst (us ++ [V.ref p34]))) := fun b o hb => by rw [upd_ne (ne_of_none hb free)]; exact f34 _ _ hb
    have l : (us ++ [V.ref p34]).length = 6 := by rw [List.length_append, l]; rfl
    clear q
    generalize upd H34 p8 (.lst (us ++ [V.ref p34])) = H35 at b f35 rx ry r1
    generalize us ++ [V.ref p34] = us at b l
    walk_at "rd"
    refine rd_drop ?_
    refine rd_app rfl b.here ?_
    walk_at "rd"
    refine rd_newT (by show 2 ≤ 1000; decide) fun p36 H36 n36 => ?_
    have q36 := Tups.of n36.same
    have rx := rx.mono q36
    have ry := ry.mono q36
    have r1 := r1.mono q36
    have f36 := f35.trans n36.same
    have b := b.same n36.same
    have r36 : Rep H36 (.un .not (bn .and ex ey)) (.ref p36) := ⟨p36, _, rfl, n36.here, r1⟩
    walk_at "rd"
    refine rd_newT (by show 2 ≤ 1000; decide) fun p37 H37 n37 => ?_
    have q37 := Tups.of n37.same
    have rx := rx.mono q37
    have ry := ry.mono q37
    have r1 := r1.mono q37
    have r36 := r36.mono q37
    have f37 := f36.trans n37.same
    have b := b.same n37.same
    have r37 : Rep H37 (.un .not ex) (.ref p37) := ⟨p37, _, rfl, n37.here, rx⟩
    walk_at "rd"
    refine rd_newT (by show 2 ≤ 1000; decide) fun p38 H38 n38 => ?_
    have q38 := Tups.of n38.same
    have rx := rx.mono q38
    have ry := ry.mono q38
    have r1 := r1.mono q38
    have r36 := r36.mono q38
    have r37 := r37.mono q38
    have f38 := f37.trans n38.same
    have b := b.same n38.same
    have r38 : Rep H38 (.un .not ey) (.ref p38) := ⟨p38, _, rfl, n38.here, ry⟩
    walk_at "rd"
    refine rd_newT (by show 3 ≤ 1000; decide) fun p39 H39 n39 => ?_
    have q39 := Tups.of n39.same
    have rx := rx.mono q39
    have ry := ry.mono q39
    have r1 := r1.mono q39
    have r36 := r36.mono q39
    have r37 := r37.mono q39
    have r38 := r38.mono q39
    have f39 := f38.trans n39.same
    have b := b.same n39.same
    have r39 : Rep H39 (bn .or (.un .not ex) (.un .not ey)) (.ref p39) := ⟨p39, _, _, rfl, n39.here, r37, r38⟩
    walk_at "rd"
    refine rd_newT (by show 2 ≤ 1000; decide) fun p40 H40 n40 => ?_
    have q40 := Tups.of n40.same
    have rx := rx.mono q40
    have ry := ry.mono q40
    have r1 := r1.mono q40
    have r36 := r36.mono q40
    have r37 := r37.mono q40
    have r38 := r38.mono q40
    have r39 := r39.mono q40
    have f40 := f39.trans n40.same
    have b := b.same n40.same
    have g : Pr w H40 (.ref p40) := ⟨p40, _, _, (.un .not (bn .and ex ey)), (bn .or (.un .not ex) (.un .not ey)), rfl, n40.here, r36, r39, ⟨ox, oy⟩, ⟨ox, oy⟩, (by first | omega | (simp only [bn, Ex.depth]; omega)), (by first | omega | (simp only [bn, Ex.depth]; omega)), eq_nand ox oy⟩
    refine rd_app2 b.here (by omega) ?_
    have q := tups_lst (vs := us ++ [V.ref p40]) b.here
    have rx := rx.mono q
    have ry := ry.mono q
    have r1 := r1.mono q
    have b := b.app g
    have f41 : Same H (upd H40 p8 (.lst (us ++ [V.ref p40]))) := fun b o hb => by rw [upd_ne (ne_of_none hb free)]; exact f40 _ _ hb
    have l : (us ++ [V.ref p40]).length = 7 := by rw [List.length_append, l]; rfl
    clear q
    generalize upd H40 p8 (.lst (us ++ [V.ref p40])) = H41 at b f41 rx ry r1
    generalize us ++ [V.ref p40] = us at b l
    walk_at "rd"
    refine rd_drop ?_
    refine rd_app rfl b.here ?_
    walk_at "rd"
    refine rd_newT (by show 2 ≤ 1000; decide) fun p42 H42 n42 => ?_
    have q42 := Tups.of n42.same
    have rx := rx.mono q42
    have ry := ry.mono q42
    have r1 := r1.mono q42
    have f42 := f41.trans n42.same
    have b := b.same n42.same
    have r42 : Rep H42 (.un .neg ey) (.ref p42) := ⟨p42, _, rfl, n42.here, ry⟩
    walk_at "rd"
    refine rd_newT (by show 3 ≤ 1000; decide) fun p43 H43 n43 => ?_
    have q43 := Tups.of n43.same
    have rx := rx.mono q43
    have ry := ry.mono q43
    have r1 := r1.mono q43
    have r42 := r42.mono q43
    have f43 := f42.trans n43.same
    have b := b.same n43.same
    have r43 : Rep H43 (bn .mul ex (.un .neg ey)) (.ref p43) := ⟨p43, _, _, rfl, n43.here, rx, r42⟩
    walk_at "rd"
    refine rd_newT (by show 3 ≤ 1000; decide) fun p44 H44 n44 => ?_
    have q44 := Tups.of n44.same
    have rx := rx.mono q44
    have ry := ry.mono q44
    have r1 := r1.mono q44
    have r42 := r42.mono q44
    have r43 := r43.mono q44
    have f44 := f43.trans n44.same
    have b := b.same n44.same
    have r44 : Rep H44 (bn .mul ex ey) (.ref p44) := ⟨p44, _, _, rfl, n44.here, rx, ry⟩
    walk_at "rd"
    refine rd_newT (by show 2 ≤ 1000; decide) fun p45 H45 n45 => ?_
    have q45 := Tups.of n45.same
    have rx := rx.mono q45
    have ry := ry.mono q45
    have r1 := r1.mono q45
    have r42 := r42.mono q45
    have r43 := r43.mono q45
    have r44 := r44.mono q45
    have f45 := f44.trans n45.same
    have b := b.same n45.same
    have r45 : Rep H45 (.un .neg (bn .mul ex ey)) (.ref p45) := ⟨p45, _, rfl, n45.here, r44⟩
    walk_at "rd"
    refine rd_newT (by show 2 ≤ 1000; decide) fun p46 H46 n46 => ?_
    have q46 := Tups.of n46.same
    have rx := rx.mono q46
    have ry := ry.mono q46
    have r1 := r1.mono q46
    have r42 := r42.mono q46
    have r43 := r43.mono q46
    have r44 := r44.mono q46
    have r45 := r45.mono q46
    have f46 := f45.trans n46.same
    have b := b.same n46.same
    have g : Pr w H46 (.ref p46) := ⟨p46, _, _, (bn .mul ex (.un .neg ey)), (.un .neg (bn .mul ex ey)), rfl, n46.here, r43, r45, ⟨ox, oy⟩, ⟨ox, oy⟩, (by first | omega | (simp only [bn, Ex.depth]; omega)), (by first | omega | (simp only [bn, Ex.depth]; omega)), eq_mulneg⟩
    refine rd_app2 b.here (by omega) ?_
    have q := tups_lst (vs := us ++ [V.ref p46]) b.here
    have rx := rx.mono q
    have ry := ry.mono q
    have r1 := r1.mono q
    have b := b.app g
    have f47 : Same H (upd H46 p8 (.lst (us ++ [V.ref p46]))) := fun b o hb => by rw [upd_ne (ne_of_none hb free)]; exact f46 _ _ hb
    have l : (us ++ [V.ref p46]).length = 8 := by rw [List.length_append, l]; rfl
    clear q
    generalize upd H46 p8 (.lst (us ++ [V.ref p46])) = H47 at b f47 rx ry r1
    generalize us ++ [V.ref p46] = us at b l
    walk_at "rd"
    refine rd_drop ?_
    refine rd_app rfl b.here ?_
    walk_at "rd"
    refine rd_newT (by show 3 ≤ 1000; decide) fun p48 H48 n48 => ?_
    have q48 := Tups.of n48.same
    have rx := rx.mono q48
    have ry := ry.mono q48
    have r1 := r1.mono q48
    have f48 := f47.trans n48.same
    have b := b.same n48.same
    have r48 : Rep H48 (bn .xor ex ey) (.ref p48) := ⟨p48, _, _, rfl, n48.here, rx, ry⟩
    walk_at "rd"
    refine rd_newT (by show 3 ≤ 1000; decide) fun p49 H49 n49 => ?_
    have q49 := Tups.of n49.same
    have rx := rx.mono q49
    have ry := ry.mono q49
    have r1 := r1.mono q49
    have r48 := r48.mono q49
    have f49 := f48.trans n49.same
    have b := b.same n49.same
    have r49 : Rep H49 (bn .and (bn .xor ex ey) ex) (.ref p49) := ⟨p49, _, _, rfl, n49.here, r48, rx⟩
    walk_at "rd"
    refine rd_newT (by show 2 ≤ 1000; decide) fun p50 H50 n50 => ?_
    have q50 := Tups.of n50.same
    have rx := rx.mono q50
    have ry := ry.mono q50
    have r1 := r1.mono q50
    have r48 := r48.mono q50
    have r49 := r49.mono q50
    have f50 := f49.trans n50.same
    have b := b.same n50.same
    have r50 : Rep H50 (.un .not ey) (.ref p50) := ⟨p50, _, rfl, n50.here, ry⟩
    walk_at "rd"
    refine rd_newT (by show 3 ≤ 1000; decide) fun p51 H51 n51 => ?_
    have q51 := Tups.of n51.same
    have rx := rx.mono q51
    have ry := ry.mono q51
    have r1 := r1.mono q51
    have r48 := r48.mono q51
    have r49 := r49.mono q51
    have r50 := r50.mono q51
    have f51 := f50.trans n51.same
    have b := b.same n51.same
    have r51 : Rep H51 (bn .and ex (.un .not ey)) (.ref p51) := ⟨p51, _, _, rfl, n51.here, rx, r50⟩
    walk_at "rd"
    refine rd_newT (by show 2 ≤ 1000; decide) fun p52 H52 n52 => ?_
    have q52 := Tups.of n52.same
    have rx := rx.mono q52
    have ry := ry.mono q52
    have r1 := r1.mono q52
    have r48 := r48.mono q52
    have r49 := r49.mono q52
    have r50 := r50.mono q52
    have r51 := r51.mono q52
    have f52 := f51.trans n52.same
    have b := b.same n52.same
    have g : Pr w H52 (.ref p52) := ⟨p52, _, _, (bn .and (bn .xor ex ey) ex), (bn .and ex (.un .not ey)), rfl, n52.here, r49, r51, ⟨⟨ox, oy⟩, ox⟩, ⟨ox, oy⟩, (by first | omega | (simp only [bn, Ex.depth]; omega)), (by first | omega | (simp only [bn, Ex.depth]; omega)), eq_xand ox oy⟩
    refine rd_app2 b.here (by omega) ?_
    have q := tups_lst (vs := us ++ [V.ref p52]) b.here
    have rx := rx.mono q
    have ry := ry.mono q
    have r1 := r1.mono q
    have b := b.app g
    have f53 : Same H (upd H52 p8 (.lst (us ++ [V.ref p52]))) := fun b o hb => by rw [upd_ne (ne_of_none hb free)]; exact f52 _ _ hb
    have l : (us ++ [V.ref p52]).length = 9 := by rw [List.length_append, l]; rfl
    clear q
    generalize upd H52 p8 (.lst (us ++ [V.ref p52])) = H53 at b f53 rx ry r1
    generalize us ++ [V.ref p52] = us at b l
    walk_at "rd"
    refine rd_newT (by show 3 ≤ 1000; decide) fun p54 H54 n54 => ?_
    have q54 := Tups.of n54.same
    have rx := rx.mono q54
    have ry := ry.mono q54
    have r1 := r1.mono q54
    have f54 := f53.trans n54.same
    have b := b.same n54.same
    have r54 : Rep H54 (bn .mul ex ey) (.ref p54) := ⟨p54, _, _, rfl, n54.here, rx, ry⟩
    walk_at "rd"
    refine rd_newT (by show 3 ≤ 1000; decide) fun p55 H55 n55 => ?_
    have q55 := Tups.of n55.same
    have rx := rx.mono q55
    have ry := ry.mono q55
    have r1 := r1.mono q55
    have r54 := r54.mono q55
    have f55 := f54.trans n55.same
    have b := b.same n55.same
    have r55 : Rep H55 (bn .mul ey ex) (.ref p55) := ⟨p55, _, _, rfl, n55.here, ry, rx⟩
    walk_at "rd"
    refine rd_newT (by show 2 ≤ 1000; decide) fun p56 H56 n56 => ?_
    have q56 := Tups.of n56.same
    have rx := rx.mono q56
    have ry := ry.mono q56
    have r1 := r1.mono q56
    have r54 := r54.mono q56
    have r55 := r55.mono q56
    have f56 := f55.trans n56.same
    have b := b.same n56.same
    have g : Pr w H56 (.ref p56) := ⟨p56, _, _, (bn .mul ex ey), (bn .mul ey ex), rfl, n56.here, r54, r55, ⟨ox, oy⟩, ⟨oy, ox⟩, (by first | omega | (simp only [bn, Ex.depth]; omega)), (by first | omega | (simp only [bn, Ex.depth]; omega)), eq_mul⟩
    walk_at "rd"
    refine rd_new (by show 1 ≤ 1000; decide) fun p57 H57 n57 => ?_
    have q57 := Tups.of n57.same
    have rx := rx.mono q57
    have ry := ry.mono q57
    have r1 := r1.mono q57
    have f57 := f56.trans n57.same
    have b := b.same n57.same
    have g := g.mono q57
    have b2 : PB w H57 p57 [.ref p56] := ⟨n57.here, fun u hu => by rw [List.mem_singleton.mp hu]; exact g⟩
    refine rd_cat b.here b2.here (by rw [l]; show 9 + 1 ≤ 1000; decide) fun p58 H58 n58 => ?_
    have q58 := Tups.of n58.same
    have rx := rx.mono q58
    have ry := ry.mono q58
    have r1 := r1.mono q58
    have f58 := f57.trans n58.same
    have free : H p58 = none := f57.free n58.free
    have b := PB.cat b b2 n58
    have l : (us ++ [V.ref p56]).length = 10 := by rw [List.length_append, l]; rfl
    generalize us ++ [V.ref p56] = us at b l n58
    exact q H58 p58 us free b l f58
theorem ok_divisions (T : Top mg) (F : Fun K "_law_divisions" "_law_divisions" s__law_divisions f fd) : FnOk P w0 K mg base CX0 1 f fd ["_law_x", "_law_amount", "_law_divisor"] sp_divisions := by
  refine F.ok sc__law_divisions (fun vs H Q E h => ?_) (fun cdv A outer s H vs Q E hr h => ?_)
  · obtain ⟨vx, ex, a, d, w, rfl, _⟩ := h
    rfl
  · obtain ⟨vx, ex, a, d, w, rfl, rx, ox, dx, hw, ha, hd, q⟩ := h
    refine ⟨_, (pss_cons (ps_set (i := 3) sc__law_divisions.nd rfl (by first | exact Or.inl rfl | exact Or.inr rfl) (pe_tup (pa_cons pe_str (pa_cons (pe_op op_shl pe_int (pv 1)) pa_nil))))
      (pss_cons (ps_set (i := 4) sc__law_divisions.nd rfl (by first | exact Or.inl rfl | exact Or.inr rfl) (pe_tup (pa_cons pe_str (pa_cons (pe_tup (pa_cons pe_str (pa_cons (pv 0) (pa_cons (pv 2) pa_nil)))) (pa_cons (pe_tup (pa_cons pe_str (pa_cons (pv 2) pa_nil))) pa_nil)))))
      (pss_cons (ps_set (i := 5) sc__law_divisions.nd rfl (by first | exact Or.inl rfl | exact Or.inr rfl) (pe_lst (pa_cons (pe_tup (pa_cons (pe_tup (pa_cons pe_str (pa_cons (pv 0) (pa_cons (pv 1) pa_nil)))) (pa_cons (pe_tup (pa_cons pe_str (pa_cons (pv 0) (pa_cons (pv 3) pa_nil)))) pa_nil))) pa_nil)))
      (pss_cons (ps_expr (pe_bm PySem.F.plainAttrs_list PySem.F.slot_list_append PySem.F.type_list_append mt_append (pv 5) (pa_cons (pe_tup (pa_cons (pe_tup (pa_cons pe_str (pa_cons (pv 0) (pa_cons (pv 1) pa_nil)))) (pa_cons (pe_tup (pa_cons pe_str (pa_cons (pv 0) (pa_cons (pe_op op_shl pe_int (pv 1)) pa_nil)))) pa_nil))) pa_nil)))
      (pss_cons (ps_expr (pe_bm PySem.F.plainAttrs_list PySem.F.slot_list_append PySem.F.type_list_append mt_append (pv 5) (pa_cons (pe_tup (pa_cons (pv 0) (pa_cons (pe_tup (pa_cons pe_str (pa_cons (pv 4) (pa_cons (pe_tup (pa_cons pe_str (pa_cons (pv 0) (pa_cons (pv 2) pa_nil)))) pa_nil)))) pa_nil))) pa_nil)))
      (pss_cons (ps_expr (pe_bm PySem.F.plainAttrs_list PySem.F.slot_list_append PySem.F.type_list_append mt_append (pv 5) (pa_cons (pe_tup (pa_cons (pe_tup (pa_cons pe_str (pa_cons (pv 0) (pa_cons (pv 2) pa_nil)))) (pa_cons (pe_tup (pa_cons pe_str (pa_cons (pv 0) (pa_cons (pv 4) pa_nil)))) pa_nil))) pa_nil)))
      (pss_one (ps_ret (pe_op op_cat (pv 5) (pe_lst (pa_cons (pe_tup (pa_cons (pe_tup (pa_cons pe_str (pa_cons (pv 0) (pa_cons (pe_op op_shl pe_int (pv 1)) pa_nil)))) (pa_cons (pe_tup (pa_cons pe_str (pa_cons (pv 0) (pa_cons (pe_tup (pa_cons pe_str (pa_cons (pe_op op_sub (pe_op op_shl pe_int (pv 1)) pe_int) pa_nil))) pa_nil)))) pa_nil))) pa_nil))))))))))), ?_⟩
    have a0 := ha.1
    have a1 := ha.2
    have pp := pow_pos2 a.toNat
    have pt : (2 : Int) ^ a.toNat < 2 ^ 64 := by
      have h2 : (2 : Nat) ^ a.toNat < 2 ^ 64 := Nat.pow_lt_pow_right (by decide) (by omega)
      have h3 : ((2 ^ a.toNat : Nat) : Int) < ((2 ^ 64 : Nat) : Int) := Int.ofNat_lt.mpr h2
      rw [Int.natCast_pow, Int.natCast_pow] at h3
      exact h3
    have okp : 0 ≤ 1 * (2 : Int) ^ a.toNat ∧ 1 * (2 : Int) ^ a.toNat < 2 ^ 64 := ⟨by omega, by omega⟩
    have okq : 0 ≤ 1 * (2 : Int) ^ a.toNat - 1 ∧ 1 * (2 : Int) ^ a.toNat - 1 < 2 ^ 64 := ⟨by omega, by omega⟩
    have okr : 1 ≤ 1 * (2 : Int) ^ a.toNat ∧ 1 * (2 : Int) ^ a.toNat < 2 ^ 64 := ⟨by omega, by omega⟩
    have f0 : Same H H := Same.refl H
    walk_at "rd"
    refine rd_newT (by show 2 ≤ 1000; decide) fun p1 H1 n1 => ?_
    have q1 := Tups.of n1.same
    have rx := rx.mono q1
    have f1 := f0.trans n1.same
    have r1 : Rep H1 (.num (1 * 2 ^ a.toNat)) (.ref p1) := ⟨p1, rfl, n1.here⟩
    walk_at "rd"
    refine rd_newT (by show 3 ≤ 1000; decide) fun p2 H2 n2 => ?_
    have q2 := Tups.of n2.same
    have rx := rx.mono q2
    have r1 := r1.mono q2
    have f2 := f1.trans n2.same
    have r2 : Rep H2 (.sh .quo ex (d)) (.ref p2) := ⟨p2, _, rfl, n2.here, rx⟩
    walk_at "rd"
    refine rd_newT (by show 2 ≤ 1000; decide) fun p3 H3 n3 => ?_
    have q3 := Tups.of n3.same
    have rx := rx.mono q3
    have r1 := r1.mono q3
    have r2 := r2.mono q3
    have f3 := f2.trans n3.same
    have r3 : Rep H3 (.num (d)) (.ref p3) := ⟨p3, rfl, n3.here⟩
    walk_at "rd"
    refine rd_newT (by show 3 ≤ 1000; decide) fun p4 H4 n4 => ?_
    have q4 := Tups.of n4.same
    have rx := rx.mono q4
    have r1 := r1.mono q4
    have r2 := r2.mono q4
    have r3 := r3.mono q4
    have f4 := f3.trans n4.same
    have r4 : Rep H4 (bn .mul (.sh .quo ex (d)) (.num (d))) (.ref p4) := ⟨p4, _, _, rfl, n4.here, r2, r3⟩
    walk_at "rd"
    refine rd_newT (by show 3 ≤ 1000; decide) fun p5 H5 n5 => ?_
    have q5 := Tups.of n5.same
    have rx := rx.mono q5
    have r1 := r1.mono q5
    have r4 := r4.mono q5
    have f5 := f4.trans n5.same
    have r5 : Rep H5 (.sh .left ex (a)) (.ref p5) := ⟨p5, _, rfl, n5.here, rx⟩
    walk_at "rd"
    refine rd_newT (by show 3 ≤ 1000; decide) fun p6 H6 n6 => ?_
    have q6 := Tups.of n6.same
    have rx := rx.mono q6
    have r1 := r1.mono q6
    have r4 := r4.mono q6
    have r5 := r5.mono q6
    have f6 := f5.trans n6.same
    have r6 : Rep H6 (bn .mul ex (.num (1 * 2 ^ a.toNat))) (.ref p6) := ⟨p6, _, _, rfl, n6.here, rx, r1⟩
    walk_at "rd"
    refine rd_newT (by show 2 ≤ 1000; decide) fun p7 H7 n7 => ?_
    have q7 := Tups.of n7.same
    have rx := rx.mono q7
    have r1 := r1.mono q7
    have r4 := r4.mono q7
    have r5 := r5.mono q7
    have r6 := r6.mono q7
    have f7 := f6.trans n7.same
    have g : Pr w H7 (.ref p7) := ⟨p7, _, _, (.sh .left ex (a)), (bn .mul ex (.num (1 * 2 ^ a.toNat))), rfl, n7.here, r5, r6, ⟨ox, ha⟩, ⟨ox, okp⟩, (by first | omega | (simp only [bn, Ex.depth]; omega)), (by first | omega | (simp only [bn, Ex.depth]; omega)), by simp only [Int.one_mul]; exact eq_left⟩
    walk_at "rd"
    refine rd_new (by show 1 ≤ 1000; decide) fun p8 H8 n8 => ?_
    have q8 := Tups.of n8.same
    have rx := rx.mono q8
    have r1 := r1.mono q8
    have r4 := r4.mono q8
    have f8 := f7.trans n8.same
    have g := g.mono q8
    have b : PB w H8 p8 [.ref p7] := ⟨n8.here, fun u hu => by rw [List.mem_singleton.mp hu]; exact g⟩
    have free : H p8 = none := f7.free n8.free
    have l : [V.ref p7].length = 1 := rfl
    generalize [V.ref p7] = us at b l n8
    walk_at "rd"
    refine rd_drop ?_
    refine rd_app rfl b.here ?_
    walk_at "rd"
    refine rd_newT (by show 3 ≤ 1000; decide) fun p9 H9 n9 => ?_
    have q9 := Tups.of n9.same
    have rx := rx.mono q9
    have r1 := r1.mono q9
    have r4 := r4.mono q9
    have f9 := f8.trans n9.same
    have b := b.same n9.same
    have r9 : Rep H9 (.sh .right ex (a)) (.ref p9) := ⟨p9, _, rfl, n9.here, rx⟩
    walk_at "rd"
    refine rd_newT (by show 3 ≤ 1000; decide) fun p10 H10 n10 => ?_
    have q10 := Tups.of n10.same
    have rx := rx.mono q10
    have r1 := r1.mono q10
    have r4 := r4.mono q10
    have r9 := r9.mono q10
    have f10 := f9.trans n10.same
    have b := b.same n10.same
    have r10 : Rep H10 (.sh .quo ex (1 * 2 ^ a.toNat)) (.ref p10) := ⟨p10, _, rfl, n10.here, rx⟩
    walk_at "rd"
    refine rd_newT (by show 2 ≤ 1000; decide) fun p11 H11 n11 => ?_
    have q11 := Tups.of n11.same
    have rx := rx.mono q11
    have r1 := r1.mono q11
    have r4 := r4.mono q11
    have r9 := r9.mono q11
    have r10 := r10.mono q11
    have f11 := f10.trans n11.same
    have b := b.same n11.same
    have g : Pr w H11 (.ref p11) := ⟨p11, _, _, (.sh .right ex (a)), (.sh .quo ex (1 * 2 ^ a.toNat)), rfl, n11.here, r9, r10, ⟨ox, ha⟩, ⟨ox, okr⟩, (by first | omega | (simp only [bn, Ex.depth]; omega)), (by first | omega | (simp only [bn, Ex.depth]; omega)), by simp only [Int.one_mul]; exact eq_right⟩
    refine rd_app2 b.here (by omega) ?_
    have q := tups_lst (vs := us ++ [V.ref p11]) b.here
    have rx := rx.mono q
    have r1 := r1.mono q
    have r4 := r4.mono q
    have b := b.app g
    have f12 : Same H (upd H11 p8 (.lst (us ++ [V.ref p11]))) := fun b o hb => by rw [upd_ne (ne_of_none hb free)]; exact f11 _ _ hb
    have l : (us ++ [V.ref p11]).length = 2 := by rw [List.length_append, l]; rfl
    clear q
    generalize upd H11 p8 (.lst (us ++ [V.ref p11])) = H12 at b f12 rx r1 r4
    generalize us ++ [V.ref p11] = us at b l
    walk_at "rd"
    refine rd_drop ?_
    refine rd_app rfl b.here ?_
    walk_at "rd"
    refine rd_newT (by show 3 ≤ 1000; decide) fun p13 H13 n13 => ?_
    have q13 := Tups.of n13.same
    have rx := rx.mono q13
    have r1 := r1.mono q13
    have r4 := r4.mono q13
    have f13 := f12.trans n13.same
    have b := b.same n13.same
    have r13 : Rep H13 (.sh .rem ex (d)) (.ref p13) := ⟨p13, _, rfl, n13.here, rx⟩
    walk_at "rd"
    refine rd_newT (by show 3 ≤ 1000; decide) fun p14 H14 n14 => ?_
    have q14 := Tups.of n14.same
    have rx := rx.mono q14
    have r1 := r1.mono q14
    have r4 := r4.mono q14
    have r13 := r13.mono q14
    have f14 := f13.trans n14.same
    have b := b.same n14.same
    have r14 : Rep H14 (bn .add (bn .mul (.sh .quo ex (d)) (.num (d))) (.sh .rem ex (d))) (.ref p14) := ⟨p14, _, _, rfl, n14.here, r4, r13⟩
    walk_at "rd"
    refine rd_newT (by show 2 ≤ 1000; decide) fun p15 H15 n15 => ?_
    have q15 := Tups.of n15.same
    have rx := rx.mono q15
    have r1 := r1.mono q15
    have r4 := r4.mono q15
    have r13 := r13.mono q15
    have r14 := r14.mono q15
    have f15 := f14.trans n15.same
    have b := b.same n15.same
    have g : Pr w H15 (.ref p15) := ⟨p15, _, _, ex, (bn .add (bn .mul (.sh .quo ex (d)) (.num (d))) (.sh .rem ex (d))), rfl, n15.here, rx, r14, ox, ⟨⟨⟨ox, hd⟩, ⟨by omega, hd.2⟩⟩, ⟨ox, hd⟩⟩, (by first | omega | (simp only [bn, Ex.depth]; omega)), (by first | omega | (simp only [bn, Ex.depth]; omega)), eq_whole ox⟩
    refine rd_app2 b.here (by omega) ?_
    have q := tups_lst (vs := us ++ [V.ref p15]) b.here
    have rx := rx.mono q
    have r1 := r1.mono q
    have r4 := r4.mono q
    have b := b.app g
    have f16 : Same H (upd H15 p8 (.lst (us ++ [V.ref p15]))) := fun b o hb => by rw [upd_ne (ne_of_none hb free)]; exact f15 _ _ hb
    have l : (us ++ [V.ref p15]).length = 3 := by rw [List.length_append, l]; rfl
    clear q
    generalize upd H15 p8 (.lst (us ++ [V.ref p15])) = H16 at b f16 rx r1 r4
    generalize us ++ [V.ref p15] = us at b l
    walk_at "rd"
    refine rd_drop ?_
    refine rd_app rfl b.here ?_
    walk_at "rd"
    refine rd_newT (by show 3 ≤ 1000; decide) fun p17 H17 n17 => ?_
    have q17 := Tups.of n17.same
    have rx := rx.mono q17
    have r1 := r1.mono q17
    have r4 := r4.mono q17
    have f17 := f16.trans n17.same
    have b := b.same n17.same
    have r17 : Rep H17 (.sh .rem ex (d)) (.ref p17) := ⟨p17, _, rfl, n17.here, rx⟩
    walk_at "rd"
    refine rd_newT (by show 3 ≤ 1000; decide) fun p18 H18 n18 => ?_
    have q18 := Tups.of n18.same
    have rx := rx.mono q18
    have r1 := r1.mono q18
    have r4 := r4.mono q18
    have r17 := r17.mono q18
    have f18 := f17.trans n18.same
    have b := b.same n18.same
    have r18 : Rep H18 (bn .sub ex (bn .mul (.sh .quo ex (d)) (.num (d)))) (.ref p18) := ⟨p18, _, _, rfl, n18.here, rx, r4⟩
    walk_at "rd"
    refine rd_newT (by show 2 ≤ 1000; decide) fun p19 H19 n19 => ?_
    have q19 := Tups.of n19.same
    have rx := rx.mono q19
    have r1 := r1.mono q19
    have r4 := r4.mono q19
    have r17 := r17.mono q19
    have r18 := r18.mono q19
    have f19 := f18.trans n19.same
    have b := b.same n19.same
    have g : Pr w H19 (.ref p19) := ⟨p19, _, _, (.sh .rem ex (d)), (bn .sub ex (bn .mul (.sh .quo ex (d)) (.num (d)))), rfl, n19.here, r17, r18, ⟨ox, hd⟩, ⟨ox, ⟨⟨ox, hd⟩, ⟨by omega, hd.2⟩⟩⟩, (by first | omega | (simp only [bn, Ex.depth]; omega)), (by first | omega | (simp only [bn, Ex.depth]; omega)), eq_rem ox hd.1⟩
    refine rd_app2 b.here (by omega) ?_
    have q := tups_lst (vs := us ++ [V.ref p19]) b.here
    have rx := rx.mono q
    have r1 := r1.mono q
    have r4 := r4.mono q
    have b := b.app g
    have f20 : Same H (upd H19 p8 (.lst (us ++ [V.ref p19]))) := fun b o hb => by rw [upd_ne (ne_of_none hb free)]; exact f19 _ _ hb
    have l : (us ++ [V.ref p19]).length = 4 := by rw [List.length_append, l]; rfl
    clear q
    generalize upd H19 p8 (.lst (us ++ [V.ref p19])) = H20 at b f20 rx r1 r4
    generalize us ++ [V.ref p19] = us at b l
    walk_at "rd"
    refine rd_newT (by show 3 ≤ 1000; decide) fun p21 H21 n21 => ?_
    have q21 := Tups.of n21.same
    have rx := rx.mono q21
    have r1 := r1.mono q21
    have r4 := r4.mono q21
    have f21 := f20.trans n21.same
    have b := b.same n21.same
    have r21 : Rep H21 (.sh .rem ex (1 * 2 ^ a.toNat)) (.ref p21) := ⟨p21, _, rfl, n21.here, rx⟩
    walk_at "rd"
    refine rd_newT (by show 2 ≤ 1000; decide) fun p22 H22 n22 => ?_
    have q22 := Tups.of n22.same
    have rx := rx.mono q22
    have r1 := r1.mono q22
    have r4 := r4.mono q22
    have r21 := r21.mono q22
    have f22 := f21.trans n22.same
    have b := b.same n22.same
    have r22 : Rep H22 (.num (1 * 2 ^ a.toNat - 1)) (.ref p22) := ⟨p22, rfl, n22.here⟩
    walk_at "rd"
    refine rd_newT (by show 3 ≤ 1000; decide) fun p23 H23 n23 => ?_
    have q23 := Tups.of n23.same
    have rx := rx.mono q23
    have r1 := r1.mono q23
    have r4 := r4.mono q23
    have r21 := r21.mono q23
    have r22 := r22.mono q23
    have f23 := f22.trans n23.same
    have b := b.same n23.same
    have r23 : Rep H23 (bn .and ex (.num (1 * 2 ^ a.toNat - 1))) (.ref p23) := ⟨p23, _, _, rfl, n23.here, rx, r22⟩
    walk_at "rd"
    refine rd_newT (by show 2 ≤ 1000; decide) fun p24 H24 n24 => ?_
    have q24 := Tups.of n24.same
    have rx := rx.mono q24
    have r1 := r1.mono q24
    have r4 := r4.mono q24
    have r21 := r21.mono q24
    have r22 := r22.mono q24
    have r23 := r23.mono q24
    have f24 := f23.trans n24.same
    have b := b.same n24.same
    have g : Pr w H24 (.ref p24) := ⟨p24, _, _, (.sh .rem ex (1 * 2 ^ a.toNat)), (bn .and ex (.num (1 * 2 ^ a.toNat - 1))), rfl, n24.here, r21, r23, ⟨ox, okr⟩, ⟨ox, okq⟩, (by first | omega | (simp only [bn, Ex.depth]; omega)), (by first | omega | (simp only [bn, Ex.depth]; omega)), by simp only [Int.one_mul]; exact eq_low ox⟩
    walk_at "rd"
    refine rd_new (by show 1 ≤ 1000; decide) fun p25 H25 n25 => ?_
    have q25 := Tups.of n25.same
    have rx := rx.mono q25
    have r1 := r1.mono q25
    have r4 := r4.mono q25
    have f25 := f24.trans n25.same
    have b := b.same n25.same
    have g := g.mono q25
    have b2 : PB w H25 p25 [.ref p24] := ⟨n25.here, fun u hu => by rw [List.mem_singleton.mp hu]; exact g⟩
    refine rd_cat b.here b2.here (by rw [l]; show 4 + 1 ≤ 1000; decide) fun p26 H26 n26 => ?_
    have q26 := Tups.of n26.same
    have rx := rx.mono q26
    have r1 := r1.mono q26
    have r4 := r4.mono q26
    have f26 := f25.trans n26.same
    have free : H p26 = none := f25.free n26.free
    have b := PB.cat b b2 n26
    have l : (us ++ [V.ref p24]).length = 5 := by rw [List.length_append, l]; rfl
    generalize us ++ [V.ref p24] = us at b l n26
    exact q H26 p26 us free b l f26
theorem ok_choices (T : Top mg) (F : Fun K "_law_choices" "_law_choices" s__law_choices f fd) : FnOk P w0 K mg base CX0 1 f fd ["_law_x", "_law_y", "_law_amount", "_law_width_here"] sp_choices := by
  refine F.ok sc__law_choices (fun vs H Q E h => ?_) (fun cdv A outer s H vs Q E hr h => ?_)
  · obtain ⟨vx, vy, ex, ey, a, k, rfl, _⟩ := h
    rfl
  · obtain ⟨vx, vy, ex, ey, a, k, rfl, rx, ry, ox, oy, dx, dy, k1, k2, ha, q⟩ := h
    refine ⟨_, (pss_cons (ps_par (i := 4) (j := 5) (by rfl) sc__law_choices.nd rfl rfl (by decide) rfl rfl (pa_cons (pe_tup (pa_cons pe_str (pa_cons pe_int pa_nil))) (pa_cons (pe_tup (pa_cons pe_str (pa_cons (pe_op op_shl pe_int (pe_op op_sub (pv 3) pe_int)) pa_nil))) pa_nil)) (by rfl))
      (pss_cons (ps_par (i := 6) (j := 7) (by rfl) sc__law_choices.nd rfl rfl (by decide) rfl rfl (pa_cons (pe_tup (pa_cons pe_str (pa_cons (pv 0) (pa_cons (pv 2) pa_nil)))) (pa_cons (pe_tup (pa_cons pe_str (pa_cons (pe_tup (pa_cons pe_str (pa_cons (pe_tup (pa_cons pe_str (pa_cons (pv 0) pa_nil))) (pa_cons (pv 2) pa_nil)))) pa_nil))) pa_nil)) (by rfl))
      (pss_cons (ps_set (i := 8) sc__law_choices.nd rfl (by first | exact Or.inl rfl | exact Or.inr rfl) (pe_lst (pa_cons (pe_tup (pa_cons (pe_tup (pa_cons pe_str (pa_cons (pv 0) (pa_cons (pv 2) pa_nil)))) (pa_cons (pe_tup (pa_cons pe_str (pa_cons (pe_tup (pa_cons pe_str (pa_cons (pv 0) (pa_cons (pv 5) pa_nil)))) (pa_cons (pv 6) (pa_cons (pv 7) pa_nil))))) pa_nil))) pa_nil)))
      (pss_cons (ps_set (i := 8) sc__law_choices.nd rfl (by first | exact Or.inl rfl | exact Or.inr rfl) (pe_op op_cat (pv 8) (pe_lst (pa_cons (pe_tup (pa_cons (pe_tup (pa_cons pe_str (pa_cons (pe_tup (pa_cons pe_str (pa_cons (pv 4) (pa_cons (pe_tup (pa_cons pe_str (pa_cons (pv 0) (pa_cons (pv 1) pa_nil)))) pa_nil)))) (pa_cons (pe_tup (pa_cons pe_str (pa_cons (pv 1) (pa_cons (pv 0) pa_nil)))) pa_nil)))) (pa_cons (pe_tup (pa_cons pe_str (pa_cons (pv 0) (pa_cons (pv 1) pa_nil)))) pa_nil))) pa_nil))))
      (pss_cons (ps_set (i := 8) sc__law_choices.nd rfl (by first | exact Or.inl rfl | exact Or.inr rfl) (pe_op op_cat (pv 8) (pe_lst (pa_cons (pe_tup (pa_cons (pe_tup (pa_cons pe_str (pa_cons (pe_tup (pa_cons pe_str (pa_cons (pv 0) (pa_cons (pv 1) pa_nil)))) (pa_cons (pv 0) (pa_cons (pv 1) pa_nil))))) (pa_cons (pe_tup (pa_cons pe_str (pa_cons (pe_tup (pa_cons pe_str (pa_cons (pv 1) (pa_cons (pv 0) pa_nil)))) (pa_cons (pv 1) (pa_cons (pv 0) pa_nil))))) pa_nil))) pa_nil))))
      (pss_cons (ps_expr (pe_bm PySem.F.plainAttrs_list PySem.F.slot_list_append PySem.F.type_list_append mt_append (pv 8) (pa_cons (pe_tup (pa_cons (pe_tup (pa_cons pe_str (pa_cons (pe_tup (pa_cons pe_str (pa_cons (pv 0) (pa_cons (pv 1) pa_nil)))) (pa_cons (pe_tup (pa_cons pe_str (pa_cons pe_int pa_nil))) pa_nil)))) (pa_cons (pe_tup (pa_cons pe_str (pa_cons (pv 0) (pa_cons (pv 1) pa_nil)))) pa_nil))) pa_nil)))
      (pss_cons (ps_expr (pe_bm PySem.F.plainAttrs_list PySem.F.slot_list_append PySem.F.type_list_append mt_append (pv 8) (pa_cons (pe_tup (pa_cons (pe_tup (pa_cons pe_str (pa_cons (pv 0) (pa_cons (pv 1) (pa_cons (pv 1) pa_nil))))) (pa_cons (pv 1) pa_nil))) pa_nil)))
      (pss_one (ps_ret (pe_op op_cat (pv 8) (pe_lst (pa_cons (pe_tup (pa_cons (pe_tup (pa_cons pe_str (pa_cons (pv 0) (pa_cons (pv 0) (pa_cons (pv 1) pa_nil))))) (pa_cons (pe_tup (pa_cons pe_str (pa_cons (pe_tup (pa_cons pe_str (pa_cons (pv 0) (pa_cons (pe_tup (pa_cons pe_str (pa_cons pe_int pa_nil))) pa_nil)))) (pa_cons (pv 1) (pa_cons (pv 0) pa_nil))))) pa_nil))) pa_nil)))))))))))), ?_⟩
    have hh := half_pow k1
    have pp := pow_pos2 (k - 1).toNat
    have pt := lt_2_64 k2
    have okh : 0 ≤ 1 * (2 : Int) ^ (k - 1).toNat ∧ 1 * (2 : Int) ^ (k - 1).toNat < 2 ^ 64 := ⟨by omega, by omega⟩
    have f0 : Same H H := Same.refl H
    walk_at "rd"
    refine rd_newT (by show 2 ≤ 1000; decide) fun p1 H1 n1 => ?_
    have q1 := Tups.of n1.same
    have rx := rx.mono q1
    have ry := ry.mono q1
    have f1 := f0.trans n1.same
    have r1 : Rep H1 (.num (1)) (.ref p1) := ⟨p1, rfl, n1.here⟩
    walk_at "rd"
    refine rd_newT (by show 2 ≤ 1000; decide) fun p2 H2 n2 => ?_
    have q2 := Tups.of n2.same
    have rx := rx.mono q2
    have ry := ry.mono q2
    have r1 := r1.mono q2
    have f2 := f1.trans n2.same
    have r2 : Rep H2 (.num (1 * 2 ^ (k - 1).toNat)) (.ref p2) := ⟨p2, rfl, n2.here⟩
    walk_at "rd"
    refine rd_newT (by show 3 ≤ 1000; decide) fun p3 H3 n3 => ?_
    have q3 := Tups.of n3.same
    have rx := rx.mono q3
    have ry := ry.mono q3
    have r1 := r1.mono q3
    have r2 := r2.mono q3
    have f3 := f2.trans n3.same
    have r3 : Rep H3 (.sh .right ex (a)) (.ref p3) := ⟨p3, _, rfl, n3.here, rx⟩
    walk_at "rd"
    refine rd_newT (by show 2 ≤ 1000; decide) fun p4 H4 n4 => ?_
    have q4 := Tups.of n4.same
    have rx := rx.mono q4
    have ry := ry.mono q4
    have r1 := r1.mono q4
    have r2 := r2.mono q4
    have r3 := r3.mono q4
    have f4 := f3.trans n4.same
    have r4 : Rep H4 (.un .not ex) (.ref p4) := ⟨p4, _, rfl, n4.here, rx⟩
    walk_at "rd"
    refine rd_newT (by show 3 ≤ 1000; decide) fun p5 H5 n5 => ?_
    have q5 := Tups.of n5.same
    have rx := rx.mono q5
    have ry := ry.mono q5
    have r1 := r1.mono q5
    have r2 := r2.mono q5
    have r3 := r3.mono q5
    have r4 := r4.mono q5
    have f5 := f4.trans n5.same
    have r5 : Rep H5 (.sh .right (.un .not ex) (a)) (.ref p5) := ⟨p5, _, rfl, n5.here, r4⟩
    walk_at "rd"
    refine rd_newT (by show 2 ≤ 1000; decide) fun p6 H6 n6 => ?_
    have q6 := Tups.of n6.same
    have rx := rx.mono q6
    have ry := ry.mono q6
    have r1 := r1.mono q6
    have r2 := r2.mono q6
    have r3 := r3.mono q6
    have r4 := r4.mono q6
    have r5 := r5.mono q6
    have f6 := f5.trans n6.same
    have r6 : Rep H6 (.un .not (.sh .right (.un .not ex) (a))) (.ref p6) := ⟨p6, _, rfl, n6.here, r5⟩
    walk_at "rd"
    refine rd_newT (by show 3 ≤ 1000; decide) fun p7 H7 n7 => ?_
    have q7 := Tups.of n7.same
    have rx := rx.mono q7
    have ry := ry.mono q7
    have r1 := r1.mono q7
    have r2 := r2.mono q7
    have r3 := r3.mono q7
    have r6 := r6.mono q7
    have f7 := f6.trans n7.same
    have r7 : Rep H7 (.sh .signed ex (a)) (.ref p7) := ⟨p7, _, rfl, n7.here, rx⟩
    walk_at "rd"
    refine rd_newT (by show 3 ≤ 1000; decide) fun p8 H8 n8 => ?_
    have q8 := Tups.of n8.same
    have rx := rx.mono q8
    have ry := ry.mono q8
    have r1 := r1.mono q8
    have r2 := r2.mono q8
    have r3 := r3.mono q8
    have r6 := r6.mono q8
    have r7 := r7.mono q8
    have f8 := f7.trans n8.same
    have r8 : Rep H8 (bn .less ex (.num (1 * 2 ^ (k - 1).toNat))) (.ref p8) := ⟨p8, _, _, rfl, n8.here, rx, r2⟩
    walk_at "rd"
    refine rd_newT (by show 4 ≤ 1000; decide) fun p9 H9 n9 => ?_
    have q9 := Tups.of n9.same
    have rx := rx.mono q9
    have ry := ry.mono q9
    have r1 := r1.mono q9
    have r2 := r2.mono q9
    have r3 := r3.mono q9
    have r6 := r6.mono q9
    have r7 := r7.mono q9
    have r8 := r8.mono q9
    have f9 := f8.trans n9.same
    have r9 : Rep H9 (.pick (bn .less ex (.num (1 * 2 ^ (k - 1).toNat))) (.sh .right ex (a)) (.un .not (.sh .right (.un .not ex) (a)))) (.ref p9) := ⟨p9, _, _, _, rfl, n9.here, r8, r3, r6⟩
    walk_at "rd"
    refine rd_newT (by show 2 ≤ 1000; decide) fun p10 H10 n10 => ?_
    have q10 := Tups.of n10.same
    have rx := rx.mono q10
    have ry := ry.mono q10
    have r1 := r1.mono q10
    have r2 := r2.mono q10
    have r3 := r3.mono q10
    have r6 := r6.mono q10
    have r7 := r7.mono q10
    have r8 := r8.mono q10
    have r9 := r9.mono q10
    have f10 := f9.trans n10.same
    have g : Pr k.toNat H10 (.ref p10) := ⟨p10, _, _, (.sh .signed ex (a)), (.pick (bn .less ex (.num (1 * 2 ^ (k - 1).toNat))) (.sh .right ex (a)) (.un .not (.sh .right (.un .not ex) (a)))), rfl, n10.here, r7, r9, ⟨ox, ha⟩, ⟨⟨ox, okh⟩, ⟨ox, ha⟩, ⟨ox, ha⟩⟩, (by first | omega | (simp only [bn, Ex.depth]; omega)), (by first | omega | (simp only [bn, Ex.depth]; omega)), by rw [show (1 : Int) * 2 ^ (k - 1).toNat = 2 ^ (k.toNat - 1) by rw [Int.one_mul, show (k - 1).toNat = k.toNat - 1 by omega]]; exact eq_signed ox (by omega)⟩
    walk_at "rd"
    refine rd_new (by show 1 ≤ 1000; decide) fun p11 H11 n11 => ?_
    have q11 := Tups.of n11.same
    have rx := rx.mono q11
    have ry := ry.mono q11
    have r1 := r1.mono q11
    have r2 := r2.mono q11
    have r3 := r3.mono q11
    have r6 := r6.mono q11
    have f11 := f10.trans n11.same
    have g := g.mono q11
    have b : PB k.toNat H11 p11 [.ref p10] := ⟨n11.here, fun u hu => by rw [List.mem_singleton.mp hu]; exact g⟩
    have free : H p11 = none := f10.free n11.free
    have l : [V.ref p10].length = 1 := rfl
    generalize [V.ref p10] = us at b l n11
    walk_at "rd"
    refine rd_newT (by show 3 ≤ 1000; decide) fun p12 H12 n12 => ?_
    have q12 := Tups.of n12.same
    have rx := rx.mono q12
    have ry := ry.mono q12
    have r1 := r1.mono q12
    have r2 := r2.mono q12
    have r3 := r3.mono q12
    have r6 := r6.mono q12
    have f12 := f11.trans n12.same
    have b := b.same n12.same
    have r12 : Rep H12 (bn .less ex ey) (.ref p12) := ⟨p12, _, _, rfl, n12.here, rx, ry⟩
    walk_at "rd"
    refine rd_newT (by show 3 ≤ 1000; decide) fun p13 H13 n13 => ?_
    have q13 := Tups.of n13.same
    have rx := rx.mono q13
    have ry := ry.mono q13
    have r1 := r1.mono q13
    have r2 := r2.mono q13
    have r3 := r3.mono q13
    have r6 := r6.mono q13
    have r12 := r12.mono q13
    have f13 := f12.trans n13.same
    have b := b.same n13.same
    have r13 : Rep H13 (bn .sub (.num (1)) (bn .less ex ey)) (.ref p13) := ⟨p13, _, _, rfl, n13.here, r1, r12⟩
    walk_at "rd"
    refine rd_newT (by show 3 ≤ 1000; decide) fun p14 H14 n14 => ?_
    have q14 := Tups.of n14.same
    have rx := rx.mono q14
    have ry := ry.mono q14
    have r1 := r1.mono q14
    have r2 := r2.mono q14
    have r3 := r3.mono q14
    have r6 := r6.mono q14
    have r12 := r12.mono q14
    have r13 := r13.mono q14
    have f14 := f13.trans n14.same
    have b := b.same n14.same
    have r14 : Rep H14 (bn .less ey ex) (.ref p14) := ⟨p14, _, _, rfl, n14.here, ry, rx⟩
    walk_at "rd"
    refine rd_newT (by show 3 ≤ 1000; decide) fun p15 H15 n15 => ?_
    have q15 := Tups.of n15.same
    have rx := rx.mono q15
    have ry := ry.mono q15
    have r1 := r1.mono q15
    have r2 := r2.mono q15
    have r3 := r3.mono q15
    have r6 := r6.mono q15
    have r12 := r12.mono q15
    have r13 := r13.mono q15
    have r14 := r14.mono q15
    have f15 := f14.trans n15.same
    have b := b.same n15.same
    have r15 : Rep H15 (bn .sub (bn .sub (.num (1)) (bn .less ex ey)) (bn .less ey ex)) (.ref p15) := ⟨p15, _, _, rfl, n15.here, r13, r14⟩
    walk_at "rd"
    refine rd_newT (by show 3 ≤ 1000; decide) fun p16 H16 n16 => ?_
    have q16 := Tups.of n16.same
    have rx := rx.mono q16
    have ry := ry.mono q16
    have r1 := r1.mono q16
    have r2 := r2.mono q16
    have r3 := r3.mono q16
    have r6 := r6.mono q16
    have r12 := r12.mono q16
    have r13 := r13.mono q16
    have r14 := r14.mono q16
    have r15 := r15.mono q16
    have f16 := f15.trans n16.same
    have b := b.same n16.same
    have r16 : Rep H16 (bn .same ex ey) (.ref p16) := ⟨p16, _, _, rfl, n16.here, rx, ry⟩
    walk_at "rd"
    refine rd_newT (by show 2 ≤ 1000; decide) fun p17 H17 n17 => ?_
    have q17 := Tups.of n17.same
    have rx := rx.mono q17
    have ry := ry.mono q17
    have r1 := r1.mono q17
    have r2 := r2.mono q17
    have r3 := r3.mono q17
    have r6 := r6.mono q17
    have r12 := r12.mono q17
    have r13 := r13.mono q17
    have r14 := r14.mono q17
    have r15 := r15.mono q17
    have r16 := r16.mono q17
    have f17 := f16.trans n17.same
    have b := b.same n17.same
    have g : Pr k.toNat H17 (.ref p17) := ⟨p17, _, _, (bn .sub (bn .sub (.num (1)) (bn .less ex ey)) (bn .less ey ex)), (bn .same ex ey), rfl, n17.here, r15, r16, ⟨⟨⟨by decide, by decide⟩, ⟨ox, oy⟩⟩, ⟨oy, ox⟩⟩, ⟨ox, oy⟩, (by first | omega | (simp only [bn, Ex.depth]; omega)), (by first | omega | (simp only [bn, Ex.depth]; omega)), eq_three (by omega)⟩
    walk_at "rd"
    refine rd_new (by show 1 ≤ 1000; decide) fun p18 H18 n18 => ?_
    have q18 := Tups.of n18.same
    have rx := rx.mono q18
    have ry := ry.mono q18
    have r1 := r1.mono q18
    have r2 := r2.mono q18
    have r3 := r3.mono q18
    have r6 := r6.mono q18
    have f18 := f17.trans n18.same
    have b := b.same n18.same
    have g := g.mono q18
    have b2 : PB k.toNat H18 p18 [.ref p17] := ⟨n18.here, fun u hu => by rw [List.mem_singleton.mp hu]; exact g⟩
    refine rd_cat b.here b2.here (by rw [l]; show 1 + 1 ≤ 1000; decide) fun p19 H19 n19 => ?_
    have q19 := Tups.of n19.same
    have rx := rx.mono q19
    have ry := ry.mono q19
    have r1 := r1.mono q19
    have r2 := r2.mono q19
    have r3 := r3.mono q19
    have r6 := r6.mono q19
    have f19 := f18.trans n19.same
    have free : H p19 = none := f18.free n19.free
    have b := PB.cat b b2 n19
    have l : (us ++ [V.ref p17]).length = 2 := by rw [List.length_append, l]; rfl
    generalize us ++ [V.ref p17] = us at b l n19
    walk_at "rd"
    refine rd_newT (by show 3 ≤ 1000; decide) fun p20 H20 n20 => ?_
    have q20 := Tups.of n20.same
    have rx := rx.mono q20
    have ry := ry.mono q20
    have r1 := r1.mono q20
    have r2 := r2.mono q20
    have r3 := r3.mono q20
    have r6 := r6.mono q20
    have f20 := f19.trans n20.same
    have b := b.same n20.same
    have r20 : Rep H20 (bn .less ex ey) (.ref p20) := ⟨p20, _, _, rfl, n20.here, rx, ry⟩
    walk_at "rd"
    refine rd_newT (by show 4 ≤ 1000; decide) fun p21 H21 n21 => ?_
    have q21 := Tups.of n21.same
    have rx := rx.mono q21
    have ry := ry.mono q21
    have r1 := r1.mono q21
    have r2 := r2.mono q21
    have r3 := r3.mono q21
    have r6 := r6.mono q21
    have r20 := r20.mono q21
    have f21 := f20.trans n21.same
    have b := b.same n21.same
    have r21 : Rep H21 (.pick (bn .less ex ey) ex ey) (.ref p21) := ⟨p21, _, _, _, rfl, n21.here, r20, rx, ry⟩
    walk_at "rd"
    refine rd_newT (by show 3 ≤ 1000; decide) fun p22 H22 n22 => ?_
    have q22 := Tups.of n22.same
    have rx := rx.mono q22
    have ry := ry.mono q22
    have r1 := r1.mono q22
    have r2 := r2.mono q22
    have r3 := r3.mono q22
    have r6 := r6.mono q22
    have r20 := r20.mono q22
    have r21 := r21.mono q22
    have f22 := f21.trans n22.same
    have b := b.same n22.same
    have r22 : Rep H22 (bn .less ey ex) (.ref p22) := ⟨p22, _, _, rfl, n22.here, ry, rx⟩
    walk_at "rd"
    refine rd_newT (by show 4 ≤ 1000; decide) fun p23 H23 n23 => ?_
    have q23 := Tups.of n23.same
    have rx := rx.mono q23
    have ry := ry.mono q23
    have r1 := r1.mono q23
    have r2 := r2.mono q23
    have r3 := r3.mono q23
    have r6 := r6.mono q23
    have r20 := r20.mono q23
    have r21 := r21.mono q23
    have r22 := r22.mono q23
    have f23 := f22.trans n23.same
    have b := b.same n23.same
    have r23 : Rep H23 (.pick (bn .less ey ex) ey ex) (.ref p23) := ⟨p23, _, _, _, rfl, n23.here, r22, ry, rx⟩
    walk_at "rd"
    refine rd_newT (by show 2 ≤ 1000; decide) fun p24 H24 n24 => ?_
    have q24 := Tups.of n24.same
    have rx := rx.mono q24
    have ry := ry.mono q24
    have r1 := r1.mono q24
    have r2 := r2.mono q24
    have r3 := r3.mono q24
    have r6 := r6.mono q24
    have r20 := r20.mono q24
    have r21 := r21.mono q24
    have r22 := r22.mono q24
    have r23 := r23.mono q24
    have f24 := f23.trans n24.same
    have b := b.same n24.same
    have g : Pr k.toNat H24 (.ref p24) := ⟨p24, _, _, (.pick (bn .less ex ey) ex ey), (.pick (bn .less ey ex) ey ex), rfl, n24.here, r21, r23, ⟨⟨ox, oy⟩, ox, oy⟩, ⟨⟨oy, ox⟩, oy, ox⟩, (by first | omega | (simp only [bn, Ex.depth]; omega)), (by first | omega | (simp only [bn, Ex.depth]; omega)), eq_least (by omega)⟩
    walk_at "rd"
    refine rd_new (by show 1 ≤ 1000; decide) fun p25 H25 n25 => ?_
    have q25 := Tups.of n25.same
    have rx := rx.mono q25
    have ry := ry.mono q25
    have r1 := r1.mono q25
    have r2 := r2.mono q25
    have r3 := r3.mono q25
    have r6 := r6.mono q25
    have f25 := f24.trans n25.same
    have b := b.same n25.same
    have g := g.mono q25
    have b2 : PB k.toNat H25 p25 [.ref p24] := ⟨n25.here, fun u hu => by rw [List.mem_singleton.mp hu]; exact g⟩
    refine rd_cat b.here b2.here (by rw [l]; show 2 + 1 ≤ 1000; decide) fun p26 H26 n26 => ?_
    have q26 := Tups.of n26.same
    have rx := rx.mono q26
    have ry := ry.mono q26
    have r1 := r1.mono q26
    have r2 := r2.mono q26
    have r3 := r3.mono q26
    have r6 := r6.mono q26
    have f26 := f25.trans n26.same
    have free : H p26 = none := f25.free n26.free
    have b := PB.cat b b2 n26
    have l : (us ++ [V.ref p24]).length = 3 := by rw [List.length_append, l]; rfl
    generalize us ++ [V.ref p24] = us at b l n26
    walk_at "rd"
    refine rd_drop ?_
    refine rd_app rfl b.here ?_
    walk_at "rd"
    refine rd_newT (by show 3 ≤ 1000; decide) fun p27 H27 n27 => ?_
    have q27 := Tups.of n27.same
    have rx := rx.mono q27
    have ry := ry.mono q27
    have r1 := r1.mono q27
    have r2 := r2.mono q27
    have r3 := r3.mono q27
    have r6 := r6.mono q27
    have f27 := f26.trans n27.same
    have b := b.same n27.same
    have r27 : Rep H27 (bn .xor ex ey) (.ref p27) := ⟨p27, _, _, rfl, n27.here, rx, ry⟩
    walk_at "rd"
    refine rd_newT (by show 2 ≤ 1000; decide) fun p28 H28 n28 => ?_
    have q28 := Tups.of n28.same
    have rx := rx.mono q28
    have ry := ry.mono q28
    have r1 := r1.mono q28
    have r2 := r2.mono q28
    have r3 := r3.mono q28
    have r6 := r6.mono q28
    have r27 := r27.mono q28
    have f28 := f27.trans n28.same
    have b := b.same n28.same
    have r28 : Rep H28 (.num (0)) (.ref p28) := ⟨p28, rfl, n28.here⟩
    walk_at "rd"
    refine rd_newT (by show 3 ≤ 1000; decide) fun p29 H29 n29 => ?_
    have q29 := Tups.of n29.same
    have rx := rx.mono q29
    have ry := ry.mono q29
    have r1 := r1.mono q29
    have r2 := r2.mono q29
    have r3 := r3.mono q29
    have r6 := r6.mono q29
    have r27 := r27.mono q29
    have r28 := r28.mono q29
    have f29 := f28.trans n29.same
    have b := b.same n29.same
    have r29 : Rep H29 (bn .same (bn .xor ex ey) (.num (0))) (.ref p29) := ⟨p29, _, _, rfl, n29.here, r27, r28⟩
    walk_at "rd"
    refine rd_newT (by show 3 ≤ 1000; decide) fun p30 H30 n30 => ?_
    have q30 := Tups.of n30.same
    have rx := rx.mono q30
    have ry := ry.mono q30
    have r1 := r1.mono q30
    have r2 := r2.mono q30
    have r3 := r3.mono q30
    have r6 := r6.mono q30
    have r27 := r27.mono q30
    have r28 := r28.mono q30
    have r29 := r29.mono q30
    have f30 := f29.trans n30.same
    have b := b.same n30.same
    have r30 : Rep H30 (bn .same ex ey) (.ref p30) := ⟨p30, _, _, rfl, n30.here, rx, ry⟩
    walk_at "rd"
    refine rd_newT (by show 2 ≤ 1000; decide) fun p31 H31 n31 => ?_
    have q31 := Tups.of n31.same
    have rx := rx.mono q31
    have ry := ry.mono q31
    have r1 := r1.mono q31
    have r2 := r2.mono q31
    have r3 := r3.mono q31
    have r6 := r6.mono q31
    have r27 := r27.mono q31
    have r28 := r28.mono q31
    have r29 := r29.mono q31
    have r30 := r30.mono q31
    have f31 := f30.trans n31.same
    have b := b.same n31.same
    have g : Pr k.toNat H31 (.ref p31) := ⟨p31, _, _, (bn .same (bn .xor ex ey) (.num (0))), (bn .same ex ey), rfl, n31.here, r29, r30, ⟨⟨ox, oy⟩, ⟨by decide, by decide⟩⟩, ⟨ox, oy⟩, (by first | omega | (simp only [bn, Ex.depth]; omega)), (by first | omega | (simp only [bn, Ex.depth]; omega)), eq_same (by omega) ox oy⟩
    refine rd_app2 b.here (by omega) ?_
    have q := tups_lst (vs := us ++ [V.ref p31]) b.here
    have rx := rx.mono q
    have ry := ry.mono q
    have r1 := r1.mono q
    have r2 := r2.mono q
    have r3 := r3.mono q
    have r6 := r6.mono q
    have b := b.app g
    have f32 : Same H (upd H31 p26 (.lst (us ++ [V.ref p31]))) := fun b o hb => by rw [upd_ne (ne_of_none hb free)]; exact f31 _ _ hb
    have l : (us ++ [V.ref p31]).length = 4 := by rw [List.length_append, l]; rfl
    clear q
    generalize upd H31 p26 (.lst (us ++ [V.ref p31])) = H32 at b f32 rx ry r1 r2 r3 r6
    generalize us ++ [V.ref p31] = us at b l
    walk_at "rd"
    refine rd_drop ?_
    refine rd_app rfl b.here ?_
    walk_at "rd"
    refine rd_newT (by show 4 ≤ 1000; decide) fun p33 H33 n33 => ?_
    have q33 := Tups.of n33.same
    have rx := rx.mono q33
    have ry := ry.mono q33
    have r1 := r1.mono q33
    have r2 := r2.mono q33
    have r3 := r3.mono q33
    have r6 := r6.mono q33
    have f33 := f32.trans n33.same
    have b := b.same n33.same
    have r33 : Rep H33 (.pick ex ey ey) (.ref p33) := ⟨p33, _, _, _, rfl, n33.here, rx, ry, ry⟩
    walk_at "rd"
    refine rd_newT (by show 2 ≤ 1000; decide) fun p34 H34 n34 => ?_
    have q34 := Tups.of n34.same
    have rx := rx.mono q34
    have ry := ry.mono q34
    have r1 := r1.mono q34
    have r2 := r2.mono q34
    have r3 := r3.mono q34
    have r6 := r6.mono q34
    have r33 := r33.mono q34
    have f34 := f33.trans n34.same
    have b := b.same n34.same
    have g : Pr k.toNat H34 (.ref p34) := ⟨p34, _, _, (.pick ex ey ey), ey, rfl, n34.here, r33, ry, ⟨ox, oy, oy⟩, oy, (by first | omega | (simp only [bn, Ex.depth]; omega)), (by first | omega | (simp only [bn, Ex.depth]; omega)), eq_both⟩
    refine rd_app2 b.here (by omega) ?_
    have q := tups_lst (vs := us ++ [V.ref p34]) b.here
    have rx := rx.mono q
    have ry := ry.mono q
    have r1 := r1.mono q
    have r2 := r2.mono q
    have r3 := r3.mono q
    have r6 := r6.mono q
    have b := b.app g
    have f35 : Same H (upd H34 p26 (.lst (us ++ [V.ref p34]))) := fun b o hb => by rw [upd_ne (ne_of_none hb free)]; exact f34 _ _ hb
    have l : (us ++ [V.ref p34]).length = 5 := by rw [List.length_append, l]; rfl
    clear q
    generalize upd H34 p26 (.lst (us ++ [V.ref p34])) = H35 at b f35 rx ry r1 r2 r3 r6
    generalize us ++ [V.ref p34] = us at b l
    walk_at "rd"
    refine rd_newT (by show 4 ≤ 1000; decide) fun p36 H36 n36 => ?_
    have q36 := Tups.of n36.same
    have rx := rx.mono q36
    have ry := ry.mono q36
    have r1 := r1.mono q36
    have r2 := r2.mono q36
    have r3 := r3.mono q36
    have r6 := r6.mono q36
    have f36 := f35.trans n36.same
    have b := b.same n36.same
    have r36 : Rep H36 (.pick ex ex ey) (.ref p36) := ⟨p36, _, _, _, rfl, n36.here, rx, rx, ry⟩
    walk_at "rd"
    refine rd_newT (by show 2 ≤ 1000; decide) fun p37 H37 n37 => ?_
    have q37 := Tups.of n37.same
    have rx := rx.mono q37
    have ry := ry.mono q37
    have r1 := r1.mono q37
    have r2 := r2.mono q37
    have r3 := r3.mono q37
    have r6 := r6.mono q37
    have r36 := r36.mono q37
    have f37 := f36.trans n37.same
    have b := b.same n37.same
    have r37 : Rep H37 (.num (0)) (.ref p37) := ⟨p37, rfl, n37.here⟩
    walk_at "rd"
    refine rd_newT (by show 3 ≤ 1000; decide) fun p38 H38 n38 => ?_
    have q38 := Tups.of n38.same
    have rx := rx.mono q38
    have ry := ry.mono q38
    have r1 := r1.mono q38
    have r2 := r2.mono q38
    have r3 := r3.mono q38
    have r6 := r6.mono q38
    have r36 := r36.mono q38
    have r37 := r37.mono q38
    have f38 := f37.trans n38.same
    have b := b.same n38.same
    have r38 : Rep H38 (bn .same ex (.num (0))) (.ref p38) := ⟨p38, _, _, rfl, n38.here, rx, r37⟩
    walk_at "rd"
    refine rd_newT (by show 4 ≤ 1000; decide) fun p39 H39 n39 => ?_
    have q39 := Tups.of n39.same
    have rx := rx.mono q39
    have ry := ry.mono q39
    have r1 := r1.mono q39
    have r2 := r2.mono q39
    have r3 := r3.mono q39
    have r6 := r6.mono q39
    have r36 := r36.mono q39
    have r37 := r37.mono q39
    have r38 := r38.mono q39
    have f39 := f38.trans n39.same
    have b := b.same n39.same
    have r39 : Rep H39 (.pick (bn .same ex (.num (0))) ey ex) (.ref p39) := ⟨p39, _, _, _, rfl, n39.here, r38, ry, rx⟩
    walk_at "rd"
    refine rd_newT (by show 2 ≤ 1000; decide) fun p40 H40 n40 => ?_
    have q40 := Tups.of n40.same
    have rx := rx.mono q40
    have ry := ry.mono q40
    have r1 := r1.mono q40
    have r2 := r2.mono q40
    have r3 := r3.mono q40
    have r6 := r6.mono q40
    have r36 := r36.mono q40
    have r37 := r37.mono q40
    have r38 := r38.mono q40
    have r39 := r39.mono q40
    have f40 := f39.trans n40.same
    have b := b.same n40.same
    have g : Pr k.toNat H40 (.ref p40) := ⟨p40, _, _, (.pick ex ex ey), (.pick (bn .same ex (.num (0))) ey ex), rfl, n40.here, r36, r39, ⟨ox, ox, oy⟩, ⟨⟨ox, ⟨by decide, by decide⟩⟩, oy, ox⟩, (by first | omega | (simp only [bn, Ex.depth]; omega)), (by first | omega | (simp only [bn, Ex.depth]; omega)), eq_pick (by omega)⟩
    walk_at "rd"
    refine rd_new (by show 1 ≤ 1000; decide) fun p41 H41 n41 => ?_
    have q41 := Tups.of n41.same
    have rx := rx.mono q41
    have ry := ry.mono q41
    have r1 := r1.mono q41
    have r2 := r2.mono q41
    have r3 := r3.mono q41
    have r6 := r6.mono q41
    have f41 := f40.trans n41.same
    have b := b.same n41.same
    have g := g.mono q41
    have b2 : PB k.toNat H41 p41 [.ref p40] := ⟨n41.here, fun u hu => by rw [List.mem_singleton.mp hu]; exact g⟩
    refine rd_cat b.here b2.here (by rw [l]; show 5 + 1 ≤ 1000; decide) fun p42 H42 n42 => ?_
    have q42 := Tups.of n42.same
    have rx := rx.mono q42
    have ry := ry.mono q42
    have r1 := r1.mono q42
    have r2 := r2.mono q42
    have r3 := r3.mono q42
    have r6 := r6.mono q42
    have f42 := f41.trans n42.same
    have free : H p42 = none := f41.free n42.free
    have b := PB.cat b b2 n42
    have l : (us ++ [V.ref p40]).length = 6 := by rw [List.length_append, l]; rfl
    generalize us ++ [V.ref p40] = us at b l n42
    exact q H42 p42 us free b l f42
end
end Lw

set_option Elab.async false
set_option linter.all false
set_option maxRecDepth 100000
set_option maxHeartbeats 4000000
namespace Lw
open PySem PySem.Spec PyProof.Rows L2 Glay
/-- what is asked of the numbers by the way -/
local macro_rules | `(tactic| walk_at "side") => `(tactic| first
  | rfl
  | decide
  | assumption
  | omega
  | (unfold CMul; omega)
  | (unfold CPowW; exact ⟨by decide, by decide +kernel⟩)
  | exact wide_mul (a := 1400) (b := 1400) (by decide +kernel) (by decide +kernel) (by decide) (by decide) (by decide)
  | exact wide_div (b := 64) (by decide) (by decide) (by decide) (by decide)
  | (unfold CMul; exact Or.inr ⟨by decide, by decide⟩)
  | (unfold CMul; exact Or.inl ⟨by decide, by decide⟩)
  | (unfold CPow; omega)
  | (unfold CPow; refine ⟨by omega, by omega, ?_⟩; omega))
local macro_rules | `(tactic| walk_at "one") => `(tactic| with_reducible first
  | (refine' rd_var ?rdh ?_; (case rdh => with_unfolding_all exact rfl))
  | refine rd_c ?_
  | refine rd_op ?_
  | refine rd_un ?_
  | refine rd_I0 ?_
  | refine rd_I (by walk_at "side") ?_
  | refine rd_U ?_
  | refine rd_seq ?_
  | refine rd_next ?_
  | refine rd_asg ?_
  | refine rd_name ?_
  | refine rd_par ?_
  | refine rd_par2 ?_
  | refine rd_ret ?_
  | refine rd_ifs ?_
  | refine rd_if ?_
  | refine rd_test ?_
  | refine rd_B ?_
  | refine rd_not ?_
  | refine rd_and ?_
  | refine rd_or ?_
  | refine rd_andV ?_
  | refine rd_orV ?_
  | refine rd_notV ?_
  | refine rd_chain ?_
  | refine rd_k ?_
  | refine rd_eq (by with_unfolding_all rfl) ?_
  | refine rd_ne (by with_unfolding_all rfl) ?_
  | refine rd_call ?_
  | refine rd_cb ?_
  | refine rd_nil ?_
  | refine rd_cons ?_
  | refine rd_lst ?_
  | refine rd_gcons ?_
  | refine rd_gnil ?_
  | refine rd_sub ?_
  | (refine' rd_ixL (SqL.of (by assumption)) ?rde ?_; (case rde => with_unfolding_all exact rfl))
  | refine rd_intI ?_
  | refine rd_intB ?_
  | refine rd_abs ?_
  | refine rd_sl ?_
  | refine rd_nopart ?_
  | refine rd_part ?_
  | refine rd_pi ?_
  | refine rd_nt ?_
  | refine rd_nf ?_
  | refine rd_t ?_
  | refine rd_f ?_
  | refine rd_for ?_
  | refine rd_max2 ?_
  | refine rd_izip ?_
  | refine rd_min2 ?_
  | (refine' rd_in (SqT.of (by assumption)) ?rdf ?rda ?_; (case rdf => with_unfolding_all rfl); (case rda => with_unfolding_all rfl))
  | refine rd_lc ?_
  | refine rd_itup ?_
  | refine rd_tyes ?_
  | (refine' rd_ixT (SqT.of (by assumption)) ?rde ?_; (case rde => first | exact at_head | with_unfolding_all exact rfl))
  | refine rd_ilist ?_
  | refine rd_irng ?_
  | refine rd_tup ?_)
local macro_rules | `(tactic| walk_at "rd") => `(tactic| repeat walk_at "one")
/-- one of two ways, by a written text -/
local macro_rules | `(tactic| walk_at "br") => `(tactic| first
  | refine rd_yes (by decide +kernel) ?_
  | refine rd_no (by decide +kernel) ?_
  | refine rd_yesN (by decide +kernel) ?_
  | refine rd_noN (by decide +kernel) ?_
  | refine rd_brT (by decide +kernel) ?_
  | refine rd_brF (by decide +kernel) ?_)
local macro_rules | `(tactic| walk_at "go") => `(tactic| repeat (first | walk_at "one" | walk_at "br"))
def sp_all : Sp := fun vs H Q _ => vs = [] ∧ ∀ p H', H p = none → H' p = some (.lst (allOps.map fun o => V.str o.str)) → Same H H' → Q (.ref p) H'
section
variable {P : Program} {w : World} {K : PySem.W.Frag} {mg : Str → Option Value} {base : Heap} {f : Addr} {fd : FuncData}
theorem ok_all (T : Top mg) (F : Fun K "_law_all" "_law_all" s__law_all f fd) : FnOk P w K mg base CX0 1 f fd [] sp_all := by
  refine F.ok sc__law_all (fun vs H Q E h => ?_) (fun cdv A outer s H vs Q E hr h => ?_)
  · obtain ⟨rfl, _⟩ := h
    rfl
  · obtain ⟨rfl, q⟩ := h
    refine ⟨_, (pss_cons (ps_set (i := 0) sc__law_all.nd rfl (by first | exact Or.inl rfl | exact Or.inr rfl) (pe_lst (pa_cons pe_str (pa_cons pe_str (pa_cons pe_str (pa_cons pe_str (pa_cons pe_str (pa_cons pe_str (pa_cons pe_str (pa_cons pe_str (pa_cons pe_str (pa_cons pe_str (pa_cons pe_str (pa_cons pe_str (pa_cons pe_str pa_nil)))))))))))))))
      (pss_one (ps_ret (pe_op op_cat (pv 0) (pe_lst (pa_cons pe_str (pa_cons pe_str (pa_cons pe_str pa_nil)))))))), ?_⟩
    walk_at "rd"
    refine rd_new (by show 13 ≤ 1000; decide) fun p1 H1 n1 => ?_
    walk_at "rd"
    refine rd_new (by show 3 ≤ 1000; decide) fun p2 H2 n2 => ?_
    walk_at "rd"
    refine rd_cat (n2.same _ _ n1.here) n2.here (by show 13 + 3 ≤ 1000; decide) fun p3 H3 n3 => ?_
    exact q p3 H3 ((n1.same.trans n2.same).free n3.free) n3.here (n1.same.trans (n2.same.trans n3.same))
end
theorem PB.fr {w : Nat} {H H' : Hp} {p d r c : Addr} {t : Int} {us : List V} (f : PB w H p us) (D : Dr H d r c t) (o : p ≠ d ∧ p ≠ r) (s : Fr d r H H') : PB w H' p us := ⟨s _ _ o.1 o.2 f.here, fun u h => (f.all u h).mono (Tups.fr D s)⟩
def sp_law (K : PySem.W.Frag) : Sp := fun vs H Q _ => ∃ (a : Addr) (ns : List Int), vs = [.ref a] ∧ SqL K H a (ns.map V.int) ∧ ns.length ≤ 63 ∧ ∀ H', Q (.bl true) H'
section
variable {P : Program} {w : World} {K : PySem.W.Frag} {mg : Str → Option Value} {base : Heap} {f aP aN a1 a2 a3 a4 a5 a6 a7 a8 a9 a10 a11 a12 a13 a14 a15 a16 a17 a18 a19 a20 : Addr} {fd b1 b2 b3 b4 b5 b6 b7 b8 b9 b10 b11 b12 b13 b14 b15 b16 b17 b18 b19 b20 : FuncData}
theorem ok_law (T : Top mg) (C : Cnt K w mg aP aN) (D_greatest_word : Df K mg "greatest_word" s_greatest_word ["width"] a1 b1) (D_to_word : Df K mg "to_word" s_to_word ["number", "width"] a2 b2) (D_signed_value : Df K mg "signed_value" s_signed_value ["word", "width"] a3 b3)
    (D_parts_of : Df K mg "parts_of" s_parts_of ["expression"] a4 b4) (D_value_by_number : Df K mg "value_by_number" s_value_by_number ["operation", "word", "number", "width"] a5 b5) (D__number_of_two : Df K mg "_number_of_two" s__number_of_two ["operation", "x", "y"] a6 b6)
    (D_value_by_parts : Df K mg "value_by_parts" s_value_by_parts ["operation", "values", "width"] a7 b7) (D_value_at : Df K mg "value_at" s_value_at ["expression", "width", "words"] a8 b8)
    (D__law_draws : Df K mg "_law_draws" s__law_draws ["_law_script"] a9 b9) (D__law_next : Df K mg "_law_next" s__law_next ["_law_drawn", "_law_many"] a10 b10) (D__law_one : Df K mg "_law_one" s__law_one ["_law_drawn", "_law_items"] a11 b11)
    (D__law_width : Df K mg "_law_width" s__law_width ["_law_drawn"] a12 b12) (D__law_word : Df K mg "_law_word" s__law_word ["_law_drawn", "_law_width_here"] a13 b13) (D__law_input : Df K mg "_law_input" s__law_input ["_law_drawn", "_law_width_here"] a14 b14)
    (D__law_number : Df K mg "_law_number" s__law_number ["_law_drawn"] a15 b15) (D__law_leaf : Df K mg "_law_leaf" s__law_leaf ["_law_drawn"] a16 b16) (D__law_counted : Df K mg "_law_counted" s__law_counted ["_law_operation"] a17 b17)
    (D__law_nodes : Df K mg "_law_nodes" s__law_nodes ["_law_expression"] a18 b18) (D__law_tree : Df K mg "_law_tree" s__law_tree ["_law_drawn", "_law_size", "_law_kinds"] a19 b19) (D__law_all : Df K mg "_law_all" s__law_all [] a20 b20)
    {a21 a22 a23 : Addr} {b21 b22 b23 : FuncData} (D__law_sums : Df K mg "_law_sums" s__law_sums ["_law_x", "_law_y"] a21 b21)
    (D__law_divisions : Df K mg "_law_divisions" s__law_divisions ["_law_x", "_law_amount", "_law_divisor"] a22 b22) (D__law_choices : Df K mg "_law_choices" s__law_choices ["_law_x", "_law_y", "_law_amount", "_law_width_here"] a23 b23)
    (F : Fun K "law" "law" s_law f fd) : FnOk P w K mg base CX0 150 f fd ["_law_script"] (sp_law K) := by
  have G__law_draws : FnOk P w K mg base CX0 1 a9 b9 _ (sp_draws K) := ok_draws T D__law_draws.fn
  have G__law_next : FnOk P w K mg base CX0 1 a10 b10 _ sp_next := ok_next T D__law_next.fn
  have G__law_width : FnOk P w K mg base CX0 3 a12 b12 _ sp_width := ok_width T D__law_next D__law_one D__law_width.fn
  have G__law_input : FnOk P w K mg base CX0 4 a14 b14 _ sp_input := ok_input T D__law_next D__law_one D__law_word D__law_input.fn
  have G__law_number : FnOk P w K mg base CX0 3 a15 b15 _ sp_number := ok_number T D__law_next D__law_one D__law_number.fn
  have G__law_tree : FnOk P w K mg base CX0 130 a19 b19 _ (sp_tree 30) := ok_tree T D__law_next D__law_one D__law_number D__law_leaf D__law_counted D__law_nodes D__law_tree 30 (by decide)
  have G_value_at : FnOk P w K mg base CX0 94 a8 b8 _ (sp_value 90) := ok_value T C D_greatest_word D_to_word D_signed_value D__number_of_two D_value_by_number D_value_by_parts D_parts_of D_value_at 90
  have G__law_all : FnOk P w K mg base CX0 1 a20 b20 _ sp_all := ok_all T D__law_all.fn
  have G__law_sums : FnOk P w K mg base CX0 1 a21 b21 _ sp_sums := ok_sums T D__law_sums.fn
  have G__law_divisions : FnOk P w K mg base CX0 1 a22 b22 _ sp_divisions := ok_divisions T D__law_divisions.fn
  have G__law_choices : FnOk P w K mg base CX0 1 a23 b23 _ sp_choices := ok_choices T D__law_choices.fn
  refine F.ok sc_law (fun vs H Q E h => ?_) (fun cdv A outer s H vs Q E hr h => ?_)
  · obtain ⟨a, ns, rfl, _⟩ := h
    rfl
  · obtain ⟨a, ns, rfl, hS, hn, q⟩ := h
    refine ⟨_, (pss_cons (ps_set (i := 1) sc_law.nd rfl (by first | exact Or.inl rfl | exact Or.inr rfl) (callF D__law_draws G__law_draws (hr.mono (by omega)) (by rfl) (pa_cons (pv 0) pa_nil)))
      (pss_cons (ps_for PassesOwn.never rfl (pi_range1 (by rfl) T.z_range (pa_cons pe_int pa_nil)) (pg_name (i := 2) sc_law.nd rfl (by first | exact Or.inl rfl | exact Or.inr rfl))
       (pss_cons (ps_par (i := 3) (j := 4) (by rfl) sc_law.nd rfl rfl (by decide) rfl rfl (pa_cons (callF D__law_width G__law_width (hr.mono (by omega)) (by rfl) (pa_cons (pv 1) pa_nil)) (pa_cons (pe_ix (ixl_k (K := K) rfl) (pe_lst (pa_cons pe_int (pa_cons pe_int (pa_cons pe_int pa_nil)))) (pe_op op_mod (pv 2) pe_int) (fun _ _ => rfl)) pa_nil)) (by rfl))
        (pss_cons (ps_par (i := 5) (j := 6) (by rfl) sc_law.nd rfl rfl (by decide) rfl rfl (pa_cons (callF D__law_tree G__law_tree (hr.mono (by omega)) (by rfl) (pa_cons (pv 1) (pa_cons (pv 4) (pa_cons (callF0 D__law_all G__law_all (hr.mono (by omega)) (by rfl)) pa_nil)))) (pa_cons (callF D__law_tree G__law_tree (hr.mono (by omega)) (by rfl) (pa_cons (pv 1) (pa_cons (pv 4) (pa_cons (callF0 D__law_all G__law_all (hr.mono (by omega)) (by rfl)) pa_nil)))) pa_nil)) (by rfl))
        (pss_cons (ps_par (i := 7) (j := 8) (by rfl) sc_law.nd rfl rfl (by decide) rfl rfl (pa_cons (callF D__law_next G__law_next (hr.mono (by omega)) (by rfl) (pa_cons (pv 1) (pa_cons pe_int pa_nil))) (pa_cons (pe_op op_add pe_int (pe_op op_mod (callF D__law_number G__law_number (hr.mono (by omega)) (by rfl) (pa_cons (pv 1) pa_nil)) (pe_op op_sub (pe_op op_shl pe_int pe_int) pe_int))) pa_nil)) (by rfl))
        (pss_cons (ps_set (i := 9) sc_law.nd rfl (by first | exact Or.inl rfl | exact Or.inr rfl) (pe_op op_cat (pe_op op_cat (callF D__law_sums G__law_sums (hr.mono (by omega)) (by rfl) (pa_cons (pv 5) (pa_cons (pv 6) pa_nil))) (callF D__law_divisions G__law_divisions (hr.mono (by omega)) (by rfl) (pa_cons (pv 5) (pa_cons (pv 7) (pa_cons (pv 8) pa_nil))))) (callF D__law_choices G__law_choices (hr.mono (by omega)) (by rfl) (pa_cons (pv 5) (pa_cons (pv 6) (pa_cons (pv 7) (pa_cons (pv 3) pa_nil)))))))
        (pss_one (ps_for PassesOwn.never rfl (pi_range1 (by rfl) T.z_range (pa_cons pe_int pa_nil)) (pg_name (i := 10) sc_law.nd rfl (by first | exact Or.inl rfl | exact Or.inr rfl))
         (pss_cons (ps_set (i := 11) sc_law.nd rfl (by first | exact Or.inl rfl | exact Or.inr rfl) (callF D__law_input G__law_input (hr.mono (by omega)) (by rfl) (pa_cons (pv 1) (pa_cons (pv 3) pa_nil))))
          (pss_one (ps_for PassesOwn.never rfl (pi_list (pv 9)) (pgt_k (K := K) (n := 2) rfl rfl (pgs_cons (pg_name (i := 12) sc_law.nd rfl (by first | exact Or.inl rfl | exact Or.inr rfl)) (pgs_cons (pg_name (i := 13) sc_law.nd rfl (by first | exact Or.inl rfl | exact Or.inr rfl)) pgs_nil)))
           (pss_one (ps_if (pt_cmpR op_ne (callF D_value_at G_value_at (hr.mono (by omega)) (by rfl) (pa_cons (pv 12) (pa_cons (pv 3) (pa_cons (pv 11) pa_nil)))) (callF D_value_at G_value_at (hr.mono (by omega)) (by rfl) (pa_cons (pv 13) (pa_cons (pv 3) (pa_cons (pv 11) pa_nil)))) (nomark _))
             (pss_one (ps_ret pe_bl))
             pss_nil))))))))))))
      (pss_one (ps_ret pe_bl)))), ?_⟩
    walk_at "rd"
    refine ⟨a, ns, rfl, hS, hn, fun H1 d r c _ _ D1 s1 => ?_⟩
    walk_at "rd"
    refine rd_forR (m := 12) (by decide) (fun i σ H' => ∃ x2 x3 x4 x5 x6 x7 x8 x9 x10 x11 x12 x13, ∃ t : Int, σ = [some (.ref a), some (.ref d), x2, x3, x4, x5, x6, x7, x8, x9, x10, x11, x12, x13] ∧ t ≤ 3000 * i ∧ Dr H' d r c t)
      ⟨none, none, none, none, none, none, none, none, none, none, none, none, 0, rfl, by omega, D1⟩ ?_ ?_
    · rintro i σ H3 hi ⟨x2, x3, x4, x5, x6, x7, x8, x9, x10, x11, x12, x13, t, rfl, ht, D3⟩
      walk_at "rd"
      refine ⟨d, r, c, t, rfl, D3, by omega, fun H4 v v0 v1 D4 F4 => ?_⟩
      walk_at "rd"
      refine rd_new (by show 3 ≤ 1000; decide) fun p5 H5 n5 => ?_
      walk_at "rd"
      obtain ⟨z, hz, az⟩ : ∃ z : Int, (z = 10 ∨ z = 4 ∨ z = 1) ∧ atI [V.int 10, V.int 4, V.int 1] ((0 + (i : Int)) % 3) = some (.int z) := by
        rcases (by omega : (0 + (i : Int)) % 3 = 0 ∨ (0 + (i : Int)) % 3 = 1 ∨ (0 + (i : Int)) % 3 = 2) with h | h | h
        · rw [h]
          exact ⟨10, .inl rfl, rfl⟩
        · rw [h]
          exact ⟨4, .inr (.inl rfl), rfl⟩
        · rw [h]
          exact ⟨1, .inr (.inr rfl), rfl⟩
      refine rd_ixL (SqL.of n5.here) az ?_
      have tz : top1 z ≤ 10 := by unfold top1; split <;> omega
      have bz : bnd z ≤ 20 := by unfold bnd; split <;> omega
      have D5 := D4.same n5.same
      walk_at "rd"
      refine ⟨rfl, fun kd H6 kd0 kd1 s6 => ?_⟩
      have o6 := D5.off kd0
      walk_at "rd"
      refine ⟨d, r, c, kd, t + 2, z, allOps, rfl, D5.same s6, by omega, by omega, by omega, o6.1, o6.2, kd1, by decide, by decide, fun H7 vx ex t7 rx ox _ nx D7 le7 F7 => ?_⟩
      walk_at "rd"
      refine ⟨rfl, fun kd2 H8 kd20 kd21 s8 => ?_⟩
      have o8 := D7.off kd20
      walk_at "rd"
      refine ⟨d, r, c, kd2, t7, z, allOps, rfl, D7.same s8, by omega, by omega, by omega, o8.1, o8.2, kd21, by decide, by decide, fun H9 vy ey t9 ry oy _ ny D9 le9 F9 => ?_⟩
      have rx := (rx.mono (Tups.of s8)).mono (Tups.fr (D7.same s8) F9)
      walk_at "rd"
      refine ⟨d, r, c, t9, 64, rfl, D9, by omega, by decide, size_of_small (by decide) (by decide), fun H10 am am0 am1 D10 F10 => ?_⟩
      have rx := rx.mono (Tups.fr D9 F10)
      have ry := ry.mono (Tups.fr D9 F10)
      walk_at "rd"
      refine ⟨d, r, c, t9 + 1, rfl, D10, by omega, fun H11 nm nm0 nm1 D11 F11 => ?_⟩
      have rx := rx.mono (Tups.fr D10 F11)
      have ry := ry.mono (Tups.fr D10 F11)
      have dx : ex.depth ≤ 80 := by have := ex.depth_le; omega
      have dy : ey.depth ≤ 80 := by have := ey.depth_le; omega
      walk_at "rd"
      refine ⟨vx, vy, ex, ey, v.toNat, rfl, rx, ry, ox, oy, dx, dy, by omega, fun H12 p12 us12 f12 b12 l12 s12 => ?_⟩
      have rx := rx.mono (Tups.of s12)
      have ry := ry.mono (Tups.of s12)
      walk_at "rd"
      have dv : 1 ≤ 1 + nm % (1 * 2 ^ (64 : Int).toNat - 1) ∧ 1 + nm % (1 * 2 ^ (64 : Int).toNat - 1) < 2 ^ 64 := by
        rw [show (1 * 2 ^ (64 : Int).toNat - 1 : Int) = 18446744073709551615 by decide]
        omega
      refine ⟨vx, ex, am, _, v.toNat, rfl, rx, ox, dx, by omega, ⟨by omega, by omega⟩, dv, fun H13 p13 us13 f13 b13 l13 s13 => ?_⟩
      have rx := rx.mono (Tups.of s13)
      have ry := ry.mono (Tups.of s13)
      walk_at "rd"
      refine rd_cat (s13 _ _ b12.here) b13.here (by omega) fun p14 H14 n14 => ?_
      have b14 := PB.cat (b12.same s13) b13 n14
      have l14 : (us12 ++ us13).length = 15 := by rw [List.length_append]; omega
      generalize us12 ++ us13 = us14 at b14 l14 n14
      have rx := rx.mono (Tups.of n14.same)
      have ry := ry.mono (Tups.of n14.same)
      walk_at "rd"
      refine ⟨vx, vy, ex, ey, am, v, rfl, rx, ry, ox, oy, dx, dy, v0, v1, ⟨by omega, by omega⟩, fun H15 p15 us15 f15 b15 l15 s15 => ?_⟩
      walk_at "rd"
      refine rd_cat (s15 _ _ b14.here) b15.here (by omega) fun p16 H16 n16 => ?_
      have b16 := PB.cat (b14.same s15) b15 n16
      have l16 : (us14 ++ us15).length = 21 := by rw [List.length_append]; omega
      generalize us14 ++ us15 = us16 at b16 l16 n16
      have D15 := D11.same (s12.trans (s13.trans (n14.same.trans s15)))
      have D16 := D15.same n16.same
      have o16 := D15.off n16.free
      walk_at "rd"
      refine rd_forR (m := 3) (by decide) (fun j σ H' => ∃ x10 x11 x12 x13, ∃ t' : Int, σ = [some (.ref a), some (.ref d), some (.int (0 + (i : Int))), some (.int v), some (.int z), some vx, some vy, some (.int am), some (.int (1 + nm % (1 * 2 ^ (64 : Int).toNat - 1))), some (.ref p16), x10, x11, x12, x13] ∧ t' ≤ t9 + 4 + 16 * j ∧ Dr H' d r c t' ∧ Fr d r H16 H')
        ⟨x10, x11, x12, x13, t9 + 1 + 3, rfl, by omega, D16, Fr.refl⟩ ?_ ?_
      · rintro j σ H17 hj ⟨x10, x11, x12, x13, t', rfl, ht', D17, F17⟩
        walk_at "rd"
        refine ⟨d, r, c, t', v, rfl, D17, by omega, v0, v1, fun H18 p18 xs h18 l18 w18 D18 F18 => ?_⟩
        have b18 := (b16.fr D16 o16 F17).fr D17 o16 F18
        walk_at "rd"
        refine rd_forL (SqL.of b18.here) (fun m σ H' => ∃ x12 x13, σ = [some (.ref a), some (.ref d), some (.int (0 + (i : Int))), some (.int v), some (.int z), some vx, some vy, some (.int am), some (.int (1 + nm % (1 * 2 ^ (64 : Int).toNat - 1))), some (.ref p16), some (.int (0 + (j : Int))), some (.ref p18), x12, x13] ∧ Same H18 H')
          ⟨x12, x13, rfl, Same.refl _⟩ ?_ ?_ ?_
        · rintro m σ H' _ ⟨x12, x13, rfl, s'⟩
          exact SqL.of (s' _ _ b18.here)
        · rintro m x σ H19 hx ⟨x12, x13, rfl, s19⟩
          obtain ⟨p, u1, u2, e1, e2, rfl, hp, r1, r2, o1, o2, d1, d2, eqv⟩ := (b18.same s19).all x (List.mem_of_getElem? hx)
          have h19 := s19 _ _ h18
          walk_at "rd"
          refine rd_gtup (SqT.of hp) rfl ?_
          walk_at "rd"
          refine ⟨e1, u1, v, p18, xs, rfl, r1, o1, d1, v0, v1, h19, l18, w18, fun H20 s20 => ?_⟩
          walk_at "rd"
          refine ⟨e2, u2, v, p18, xs, rfl, r2.mono (Tups.of s20), o2, d2, v0, v1, s20 _ _ h19, l18, w18, fun H21 s21 => ?_⟩
          walk_at "rd"
          refine rd_noN (congrArg V.int (eqv _ (env4_wd l18 w18))) ?_
          walk_at "rd"
          exact ⟨_, _, rfl, s19.trans (s20.trans s21)⟩
        · rintro σ H19 ⟨x12, x13, rfl, s19⟩
          walk_at "rd"
          exact ⟨_, _, _, _, t' + 16, rfl, by omega, D18.same s19, F17.trans (F18.trans (Fr.of s19))⟩
      · rintro σ H17 ⟨x10, x11, x12, x13, t', rfl, ht', D17, F17⟩
        walk_at "rd"
        exact ⟨_, _, _, _, _, _, _, _, _, _, _, _, t', rfl, by omega, D17⟩
    · rintro σ H3 ⟨x2, x3, x4, x5, x6, x7, x8, x9, x10, x11, x12, x13, t, rfl, ht, D3⟩
      walk_at "rd"
      exact q H3
end
end Lw

set_option Elab.async false
set_option linter.all false
set_option maxRecDepth 100000
set_option maxHeartbeats 4000000
namespace Lw
open PySem PySem.Spec PyProof.Rows L2 Glay
/-- what is asked of the numbers by the way -/
local macro_rules | `(tactic| walk_at "side") => `(tactic| first
  | rfl
  | decide
  | assumption
  | omega
  | (unfold CMul; omega)
  | (unfold CPowW; exact ⟨by decide, by decide +kernel⟩)
  | exact wide_mul (a := 1400) (b := 1400) (by decide +kernel) (by decide +kernel) (by decide) (by decide) (by decide)
  | exact wide_div (b := 64) (by decide) (by decide) (by decide) (by decide)
  | (unfold CMul; exact Or.inr ⟨by decide, by decide⟩)
  | (unfold CMul; exact Or.inl ⟨by decide, by decide⟩)
  | (unfold CPow; omega)
  | (unfold CPow; refine ⟨by omega, by omega, ?_⟩; omega))
local macro_rules | `(tactic| walk_at "one") => `(tactic| with_reducible first
  | (refine' rd_var ?rdh ?_; (case rdh => with_unfolding_all exact rfl))
  | refine rd_c ?_
  | refine rd_op ?_
  | refine rd_un ?_
  | refine rd_I0 ?_
  | refine rd_I (by walk_at "side") ?_
  | refine rd_U ?_
  | refine rd_seq ?_
  | refine rd_next ?_
  | refine rd_asg ?_
  | refine rd_name ?_
  | refine rd_par ?_
  | refine rd_par2 ?_
  | refine rd_ret ?_
  | refine rd_ifs ?_
  | refine rd_if ?_
  | refine rd_test ?_
  | refine rd_B ?_
  | refine rd_not ?_
  | refine rd_and ?_
  | refine rd_or ?_
  | refine rd_andV ?_
  | refine rd_orV ?_
  | refine rd_notV ?_
  | refine rd_chain ?_
  | refine rd_k ?_
  | refine rd_eq (by with_unfolding_all rfl) ?_
  | refine rd_ne (by with_unfolding_all rfl) ?_
  | refine rd_call ?_
  | refine rd_cb ?_
  | refine rd_nil ?_
  | refine rd_cons ?_
  | refine rd_lst ?_
  | refine rd_gcons ?_
  | refine rd_gnil ?_
  | refine rd_sub ?_
  | (refine' rd_ixL (SqL.of (by assumption)) ?rde ?_; (case rde => with_unfolding_all exact rfl))
  | refine rd_intI ?_
  | refine rd_intB ?_
  | refine rd_abs ?_
  | refine rd_sl ?_
  | refine rd_nopart ?_
  | refine rd_part ?_
  | refine rd_pi ?_
  | refine rd_nt ?_
  | refine rd_nf ?_
  | refine rd_t ?_
  | refine rd_f ?_
  | refine rd_for ?_
  | refine rd_max2 ?_
  | refine rd_izip ?_
  | refine rd_min2 ?_
  | (refine' rd_in (SqT.of (by assumption)) ?rdf ?rda ?_; (case rdf => with_unfolding_all rfl); (case rda => with_unfolding_all rfl))
  | refine rd_lc ?_
  | refine rd_itup ?_
  | refine rd_tyes ?_
  | (refine' rd_ixT (SqT.of (by assumption)) ?rde ?_; (case rde => first | exact at_head | with_unfolding_all exact rfl))
  | refine rd_ilist ?_
  | refine rd_irng ?_
  | refine rd_tup ?_)
local macro_rules | `(tactic| walk_at "rd") => `(tactic| repeat walk_at "one")
/-- one of two ways, by a written text -/
local macro_rules | `(tactic| walk_at "br") => `(tactic| first
  | refine rd_yes (by decide +kernel) ?_
  | refine rd_no (by decide +kernel) ?_
  | refine rd_yesN (by decide +kernel) ?_
  | refine rd_noN (by decide +kernel) ?_
  | refine rd_brT (by decide +kernel) ?_
  | refine rd_brF (by decide +kernel) ?_)
local macro_rules | `(tactic| walk_at "go") => `(tactic| repeat (first | walk_at "one" | walk_at "br"))
theorem all_mk {l : PySem.W.OpenLaw} {w : World} {K : PySem.W.Frag} {h : Heap} {mg : Str → Option Value} {fa f0 f1 f2 f3 f4 f5 f6 f7 f8 f9 f10 f11 f12 f13 f14 f15 f16 f17 f18 f19 f20 f21 f22 f23 : Addr} (X : K.In h) (G : h.Ns mainGlobals mg) (hfa : mg "law" = some (.ref fa))
    {od0 od1 od2 od3 od4 od5 od6 od7 od8 od9 od10 od11 od12 od13 od14 od15 od16 od17 od18 od19 od20 od21 od22 od23 an0 an1 an2 an3 an4 an5 an6 an7 an8 an9 an10 an11 an12 an13 an14 an15 an16 an17 an18 an19 an20 an21 an22 an23 : Option Addr} {sl0 sl1 sl2 sl3 sl4 sl5 sl6 sl7 sl8 sl9 sl10 sl11 sl12 sl13 sl14 sl15 sl16 sl17 sl18 sl19 sl20 sl21 sl22 sl23 : Array (Option Value)} {oc0 oc1 oc2 oc3 oc4 oc5 oc6 oc7 oc8 oc9 oc10 oc11 oc12 oc13 oc14 oc15 oc16 oc17 oc18 oc19 oc20 oc21 oc22 oc23 kV0 kV1 kV2 kV3 kV4 kV5 kV6 kV7 kV8 kV9 kV10 kV11 kV12 kV13 kV14 kV15 kV16 kV17 kV18 kV19 kV20 kV21 kV22 kV23 dc0 dc1 dc2 dc3 dc4 dc5 dc6 dc7 dc8 dc9 dc10 dc11 dc12 dc13 dc14 dc15 dc16 dc17 dc18 dc19 dc20 dc21 dc22 dc23 pm0 pm1 pm2 pm3 pm4 pm5 pm6 pm7 pm8 pm9 pm10 pm11 pm12 pm13 pm14 pm15 pm16 pm17 pm18 pm19 pm20 pm21 pm22 pm23 cd0 cd1 cd2 cd3 cd4 cd5 cd6 cd7 cd8 cd9 cd10 cd11 cd12 cd13 cd14 cd15 cd16 cd17 cd18 cd19 cd20 cd21 cd22 cd23 ct0 ct1 ct2 ct3 ct4 ct5 ct6 ct7 ct8 ct9 ct10 ct11 ct12 ct13 ct14 ct15 ct16 ct17 ct18 ct19 ct20 ct21 ct22 ct23 : Value}
    {g_PART_COUNTS : Addr} {es_PART_COUNTS : Array DictEntry} {n_PART_COUNTS : Nat} {t_PART_COUNTS_name : Tok} {t_PART_COUNTS_number : Tok} {t_PART_COUNTS_not : Tok} {t_PART_COUNTS_neg : Tok} {t_PART_COUNTS_add : Tok} {t_PART_COUNTS_sub : Tok} {t_PART_COUNTS_mul : Tok} {t_PART_COUNTS_and : Tok} {t_PART_COUNTS_or : Tok} {t_PART_COUNTS_xor : Tok} {t_PART_COUNTS_left : Tok} {t_PART_COUNTS_right : Tok} {t_PART_COUNTS_signed : Tok} {t_PART_COUNTS_quo : Tok} {t_PART_COUNTS_rem : Tok} {t_PART_COUNTS_less : Tok} {t_PART_COUNTS_same : Tok} {t_PART_COUNTS_pick : Tok} {g_NUMBER_BOUNDS : Addr} {es_NUMBER_BOUNDS : Array DictEntry} {n_NUMBER_BOUNDS : Nat} {u_NUMBER_BOUNDS_name : Value} {u_NUMBER_BOUNDS_number : Value} {u_NUMBER_BOUNDS_left : Value} {u_NUMBER_BOUNDS_right : Value} {u_NUMBER_BOUNDS_signed : Value} {u_NUMBER_BOUNDS_quo : Value} {u_NUMBER_BOUNDS_rem : Value}
    (a0 : PySem.W.nsIn K mainGlobals "greatest_word" = some (some (.ref f0)))
    (l0 : K.lookup f0 = some ⟨oc0, od0, .func (PySem.W.fnOf "greatest_word" "greatest_word" (defArgs s_greatest_word) (defBody s_greatest_word) (defScope s_greatest_word) .none kV0 dc0 pm0 an0 cd0 ct0), sl0⟩)
    (c0 : PySem.W.codeIn K cd0 "greatest_word" = true) (k0 : PySem.W.keepIn K (.ref f0) = true)
    (a1 : PySem.W.nsIn K mainGlobals "to_word" = some (some (.ref f1)))
    (l1 : K.lookup f1 = some ⟨oc1, od1, .func (PySem.W.fnOf "to_word" "to_word" (defArgs s_to_word) (defBody s_to_word) (defScope s_to_word) .none kV1 dc1 pm1 an1 cd1 ct1), sl1⟩)
    (c1 : PySem.W.codeIn K cd1 "to_word" = true) (k1 : PySem.W.keepIn K (.ref f1) = true)
    (a2 : PySem.W.nsIn K mainGlobals "signed_value" = some (some (.ref f2)))
    (l2 : K.lookup f2 = some ⟨oc2, od2, .func (PySem.W.fnOf "signed_value" "signed_value" (defArgs s_signed_value) (defBody s_signed_value) (defScope s_signed_value) .none kV2 dc2 pm2 an2 cd2 ct2), sl2⟩)
    (c2 : PySem.W.codeIn K cd2 "signed_value" = true) (k2 : PySem.W.keepIn K (.ref f2) = true)
    (a3 : PySem.W.nsIn K mainGlobals "parts_of" = some (some (.ref f3)))
    (l3 : K.lookup f3 = some ⟨oc3, od3, .func (PySem.W.fnOf "parts_of" "parts_of" (defArgs s_parts_of) (defBody s_parts_of) (defScope s_parts_of) .none kV3 dc3 pm3 an3 cd3 ct3), sl3⟩)
    (c3 : PySem.W.codeIn K cd3 "parts_of" = true) (k3 : PySem.W.keepIn K (.ref f3) = true)
    (a4 : PySem.W.nsIn K mainGlobals "value_by_number" = some (some (.ref f4)))
    (l4 : K.lookup f4 = some ⟨oc4, od4, .func (PySem.W.fnOf "value_by_number" "value_by_number" (defArgs s_value_by_number) (defBody s_value_by_number) (defScope s_value_by_number) .none kV4 dc4 pm4 an4 cd4 ct4), sl4⟩)
    (c4 : PySem.W.codeIn K cd4 "value_by_number" = true) (k4 : PySem.W.keepIn K (.ref f4) = true)
    (a5 : PySem.W.nsIn K mainGlobals "_number_of_two" = some (some (.ref f5)))
    (l5 : K.lookup f5 = some ⟨oc5, od5, .func (PySem.W.fnOf "_number_of_two" "_number_of_two" (defArgs s__number_of_two) (defBody s__number_of_two) (defScope s__number_of_two) .none kV5 dc5 pm5 an5 cd5 ct5), sl5⟩)
    (c5 : PySem.W.codeIn K cd5 "_number_of_two" = true) (k5 : PySem.W.keepIn K (.ref f5) = true)
    (a6 : PySem.W.nsIn K mainGlobals "value_by_parts" = some (some (.ref f6)))
    (l6 : K.lookup f6 = some ⟨oc6, od6, .func (PySem.W.fnOf "value_by_parts" "value_by_parts" (defArgs s_value_by_parts) (defBody s_value_by_parts) (defScope s_value_by_parts) .none kV6 dc6 pm6 an6 cd6 ct6), sl6⟩)
    (c6 : PySem.W.codeIn K cd6 "value_by_parts" = true) (k6 : PySem.W.keepIn K (.ref f6) = true)
    (a7 : PySem.W.nsIn K mainGlobals "value_at" = some (some (.ref f7)))
    (l7 : K.lookup f7 = some ⟨oc7, od7, .func (PySem.W.fnOf "value_at" "value_at" (defArgs s_value_at) (defBody s_value_at) (defScope s_value_at) .none kV7 dc7 pm7 an7 cd7 ct7), sl7⟩)
    (c7 : PySem.W.codeIn K cd7 "value_at" = true) (k7 : PySem.W.keepIn K (.ref f7) = true)
    (a8 : PySem.W.nsIn K mainGlobals "_law_draws" = some (some (.ref f8)))
    (l8 : K.lookup f8 = some ⟨oc8, od8, .func (PySem.W.fnOf "_law_draws" "_law_draws" (defArgs s__law_draws) (defBody s__law_draws) (defScope s__law_draws) .none kV8 dc8 pm8 an8 cd8 ct8), sl8⟩)
    (c8 : PySem.W.codeIn K cd8 "_law_draws" = true) (k8 : PySem.W.keepIn K (.ref f8) = true)
    (a9 : PySem.W.nsIn K mainGlobals "_law_next" = some (some (.ref f9)))
    (l9 : K.lookup f9 = some ⟨oc9, od9, .func (PySem.W.fnOf "_law_next" "_law_next" (defArgs s__law_next) (defBody s__law_next) (defScope s__law_next) .none kV9 dc9 pm9 an9 cd9 ct9), sl9⟩)
    (c9 : PySem.W.codeIn K cd9 "_law_next" = true) (k9 : PySem.W.keepIn K (.ref f9) = true)
    (a10 : PySem.W.nsIn K mainGlobals "_law_one" = some (some (.ref f10)))
    (l10 : K.lookup f10 = some ⟨oc10, od10, .func (PySem.W.fnOf "_law_one" "_law_one" (defArgs s__law_one) (defBody s__law_one) (defScope s__law_one) .none kV10 dc10 pm10 an10 cd10 ct10), sl10⟩)
    (c10 : PySem.W.codeIn K cd10 "_law_one" = true) (k10 : PySem.W.keepIn K (.ref f10) = true)
    (a11 : PySem.W.nsIn K mainGlobals "_law_width" = some (some (.ref f11)))
    (l11 : K.lookup f11 = some ⟨oc11, od11, .func (PySem.W.fnOf "_law_width" "_law_width" (defArgs s__law_width) (defBody s__law_width) (defScope s__law_width) .none kV11 dc11 pm11 an11 cd11 ct11), sl11⟩)
    (c11 : PySem.W.codeIn K cd11 "_law_width" = true) (k11 : PySem.W.keepIn K (.ref f11) = true)
    (a12 : PySem.W.nsIn K mainGlobals "_law_word" = some (some (.ref f12)))
    (l12 : K.lookup f12 = some ⟨oc12, od12, .func (PySem.W.fnOf "_law_word" "_law_word" (defArgs s__law_word) (defBody s__law_word) (defScope s__law_word) .none kV12 dc12 pm12 an12 cd12 ct12), sl12⟩)
    (c12 : PySem.W.codeIn K cd12 "_law_word" = true) (k12 : PySem.W.keepIn K (.ref f12) = true)
    (a13 : PySem.W.nsIn K mainGlobals "_law_input" = some (some (.ref f13)))
    (l13 : K.lookup f13 = some ⟨oc13, od13, .func (PySem.W.fnOf "_law_input" "_law_input" (defArgs s__law_input) (defBody s__law_input) (defScope s__law_input) .none kV13 dc13 pm13 an13 cd13 ct13), sl13⟩)
    (c13 : PySem.W.codeIn K cd13 "_law_input" = true) (k13 : PySem.W.keepIn K (.ref f13) = true)
    (a14 : PySem.W.nsIn K mainGlobals "_law_number" = some (some (.ref f14)))
    (l14 : K.lookup f14 = some ⟨oc14, od14, .func (PySem.W.fnOf "_law_number" "_law_number" (defArgs s__law_number) (defBody s__law_number) (defScope s__law_number) .none kV14 dc14 pm14 an14 cd14 ct14), sl14⟩)
    (c14 : PySem.W.codeIn K cd14 "_law_number" = true) (k14 : PySem.W.keepIn K (.ref f14) = true)
    (a15 : PySem.W.nsIn K mainGlobals "_law_leaf" = some (some (.ref f15)))
    (l15 : K.lookup f15 = some ⟨oc15, od15, .func (PySem.W.fnOf "_law_leaf" "_law_leaf" (defArgs s__law_leaf) (defBody s__law_leaf) (defScope s__law_leaf) .none kV15 dc15 pm15 an15 cd15 ct15), sl15⟩)
    (c15 : PySem.W.codeIn K cd15 "_law_leaf" = true) (k15 : PySem.W.keepIn K (.ref f15) = true)
    (a16 : PySem.W.nsIn K mainGlobals "_law_counted" = some (some (.ref f16)))
    (l16 : K.lookup f16 = some ⟨oc16, od16, .func (PySem.W.fnOf "_law_counted" "_law_counted" (defArgs s__law_counted) (defBody s__law_counted) (defScope s__law_counted) .none kV16 dc16 pm16 an16 cd16 ct16), sl16⟩)
    (c16 : PySem.W.codeIn K cd16 "_law_counted" = true) (k16 : PySem.W.keepIn K (.ref f16) = true)
    (a17 : PySem.W.nsIn K mainGlobals "_law_nodes" = some (some (.ref f17)))
    (l17 : K.lookup f17 = some ⟨oc17, od17, .func (PySem.W.fnOf "_law_nodes" "_law_nodes" (defArgs s__law_nodes) (defBody s__law_nodes) (defScope s__law_nodes) .none kV17 dc17 pm17 an17 cd17 ct17), sl17⟩)
    (c17 : PySem.W.codeIn K cd17 "_law_nodes" = true) (k17 : PySem.W.keepIn K (.ref f17) = true)
    (a18 : PySem.W.nsIn K mainGlobals "_law_tree" = some (some (.ref f18)))
    (l18 : K.lookup f18 = some ⟨oc18, od18, .func (PySem.W.fnOf "_law_tree" "_law_tree" (defArgs s__law_tree) (defBody s__law_tree) (defScope s__law_tree) .none kV18 dc18 pm18 an18 cd18 ct18), sl18⟩)
    (c18 : PySem.W.codeIn K cd18 "_law_tree" = true) (k18 : PySem.W.keepIn K (.ref f18) = true)
    (a19 : PySem.W.nsIn K mainGlobals "_law_all" = some (some (.ref f19)))
    (l19 : K.lookup f19 = some ⟨oc19, od19, .func (PySem.W.fnOf "_law_all" "_law_all" (defArgs s__law_all) (defBody s__law_all) (defScope s__law_all) .none kV19 dc19 pm19 an19 cd19 ct19), sl19⟩)
    (c19 : PySem.W.codeIn K cd19 "_law_all" = true) (k19 : PySem.W.keepIn K (.ref f19) = true)
    (a20 : PySem.W.nsIn K mainGlobals "_law_sums" = some (some (.ref f20)))
    (l20 : K.lookup f20 = some ⟨oc20, od20, .func (PySem.W.fnOf "_law_sums" "_law_sums" (defArgs s__law_sums) (defBody s__law_sums) (defScope s__law_sums) .none kV20 dc20 pm20 an20 cd20 ct20), sl20⟩)
    (c20 : PySem.W.codeIn K cd20 "_law_sums" = true) (k20 : PySem.W.keepIn K (.ref f20) = true)
    (a21 : PySem.W.nsIn K mainGlobals "_law_divisions" = some (some (.ref f21)))
    (l21 : K.lookup f21 = some ⟨oc21, od21, .func (PySem.W.fnOf "_law_divisions" "_law_divisions" (defArgs s__law_divisions) (defBody s__law_divisions) (defScope s__law_divisions) .none kV21 dc21 pm21 an21 cd21 ct21), sl21⟩)
    (c21 : PySem.W.codeIn K cd21 "_law_divisions" = true) (k21 : PySem.W.keepIn K (.ref f21) = true)
    (a22 : PySem.W.nsIn K mainGlobals "_law_choices" = some (some (.ref f22)))
    (l22 : K.lookup f22 = some ⟨oc22, od22, .func (PySem.W.fnOf "_law_choices" "_law_choices" (defArgs s__law_choices) (defBody s__law_choices) (defScope s__law_choices) .none kV22 dc22 pm22 an22 cd22 ct22), sl22⟩)
    (c22 : PySem.W.codeIn K cd22 "_law_choices" = true) (k22 : PySem.W.keepIn K (.ref f22) = true)
    (a23 : PySem.W.nsIn K mainGlobals "law" = some (some (.ref f23)))
    (l23 : K.lookup f23 = some ⟨oc23, od23, .func (PySem.W.fnOf "law" "law" (defArgs s_law) (defBody s_law) (defScope s_law) .none kV23 dc23 pm23 an23 cd23 ct23), sl23⟩)
    (c23 : PySem.W.codeIn K cd23 "law" = true) (k23 : PySem.W.keepIn K (.ref f23) = true)
    (z_int : PySem.W.nsIn K mainGlobals "int" = some none)
    (z_isinstance : PySem.W.nsIn K mainGlobals "isinstance" = some none)
    (z_len : PySem.W.nsIn K mainGlobals "len" = some none)
    (z_list : PySem.W.nsIn K mainGlobals "list" = some none)
    (z_max : PySem.W.nsIn K mainGlobals "max" = some none)
    (z_range : PySem.W.nsIn K mainGlobals "range" = some none)
    (z_sum : PySem.W.nsIn K mainGlobals "sum" = some none)
    (z_tuple : PySem.W.nsIn K mainGlobals "tuple" = some none)
    (p_PART_COUNTS : PySem.W.nsIn K mainGlobals "PART_COUNTS" = some (some (.ref g_PART_COUNTS))) (l_PART_COUNTS : K.lookup g_PART_COUNTS = some ⟨.type "dict", none, .dict es_PART_COUNTS n_PART_COUNTS, #[]⟩) (k_PART_COUNTS : PySem.W.KeysLit w.params es_PART_COUNTS.toList) (s_PART_COUNTS : (g_PART_COUNTS == sysModules) = false)
    (e_PART_COUNTS_name : PySem.W.nsIn K g_PART_COUNTS "name" = some (some (.int 0 t_PART_COUNTS_name)))
    (e_PART_COUNTS_number : PySem.W.nsIn K g_PART_COUNTS "number" = some (some (.int 0 t_PART_COUNTS_number)))
    (e_PART_COUNTS_not : PySem.W.nsIn K g_PART_COUNTS "not" = some (some (.int 1 t_PART_COUNTS_not)))
    (e_PART_COUNTS_neg : PySem.W.nsIn K g_PART_COUNTS "neg" = some (some (.int 1 t_PART_COUNTS_neg)))
    (e_PART_COUNTS_add : PySem.W.nsIn K g_PART_COUNTS "add" = some (some (.int 2 t_PART_COUNTS_add)))
    (e_PART_COUNTS_sub : PySem.W.nsIn K g_PART_COUNTS "sub" = some (some (.int 2 t_PART_COUNTS_sub)))
    (e_PART_COUNTS_mul : PySem.W.nsIn K g_PART_COUNTS "mul" = some (some (.int 2 t_PART_COUNTS_mul)))
    (e_PART_COUNTS_and : PySem.W.nsIn K g_PART_COUNTS "and" = some (some (.int 2 t_PART_COUNTS_and)))
    (e_PART_COUNTS_or : PySem.W.nsIn K g_PART_COUNTS "or" = some (some (.int 2 t_PART_COUNTS_or)))
    (e_PART_COUNTS_xor : PySem.W.nsIn K g_PART_COUNTS "xor" = some (some (.int 2 t_PART_COUNTS_xor)))
    (e_PART_COUNTS_left : PySem.W.nsIn K g_PART_COUNTS "left" = some (some (.int 1 t_PART_COUNTS_left)))
    (e_PART_COUNTS_right : PySem.W.nsIn K g_PART_COUNTS "right" = some (some (.int 1 t_PART_COUNTS_right)))
    (e_PART_COUNTS_signed : PySem.W.nsIn K g_PART_COUNTS "signed" = some (some (.int 1 t_PART_COUNTS_signed)))
    (e_PART_COUNTS_quo : PySem.W.nsIn K g_PART_COUNTS "quo" = some (some (.int 1 t_PART_COUNTS_quo)))
    (e_PART_COUNTS_rem : PySem.W.nsIn K g_PART_COUNTS "rem" = some (some (.int 1 t_PART_COUNTS_rem)))
    (e_PART_COUNTS_less : PySem.W.nsIn K g_PART_COUNTS "less" = some (some (.int 2 t_PART_COUNTS_less)))
    (e_PART_COUNTS_same : PySem.W.nsIn K g_PART_COUNTS "same" = some (some (.int 2 t_PART_COUNTS_same)))
    (e_PART_COUNTS_pick : PySem.W.nsIn K g_PART_COUNTS "pick" = some (some (.int 3 t_PART_COUNTS_pick)))
    (p_NUMBER_BOUNDS : PySem.W.nsIn K mainGlobals "NUMBER_BOUNDS" = some (some (.ref g_NUMBER_BOUNDS))) (l_NUMBER_BOUNDS : K.lookup g_NUMBER_BOUNDS = some ⟨.type "dict", none, .dict es_NUMBER_BOUNDS n_NUMBER_BOUNDS, #[]⟩) (k_NUMBER_BOUNDS : PySem.W.KeysLit w.params es_NUMBER_BOUNDS.toList) (s_NUMBER_BOUNDS : (g_NUMBER_BOUNDS == sysModules) = false)
    (e_NUMBER_BOUNDS_name : PySem.W.nsIn K g_NUMBER_BOUNDS "name" = some (some u_NUMBER_BOUNDS_name))
    (e_NUMBER_BOUNDS_number : PySem.W.nsIn K g_NUMBER_BOUNDS "number" = some (some u_NUMBER_BOUNDS_number))
    (e_NUMBER_BOUNDS_not : PySem.W.nsIn K g_NUMBER_BOUNDS "not" = some (none))
    (e_NUMBER_BOUNDS_neg : PySem.W.nsIn K g_NUMBER_BOUNDS "neg" = some (none))
    (e_NUMBER_BOUNDS_add : PySem.W.nsIn K g_NUMBER_BOUNDS "add" = some (none))
    (e_NUMBER_BOUNDS_sub : PySem.W.nsIn K g_NUMBER_BOUNDS "sub" = some (none))
    (e_NUMBER_BOUNDS_mul : PySem.W.nsIn K g_NUMBER_BOUNDS "mul" = some (none))
    (e_NUMBER_BOUNDS_and : PySem.W.nsIn K g_NUMBER_BOUNDS "and" = some (none))
    (e_NUMBER_BOUNDS_or : PySem.W.nsIn K g_NUMBER_BOUNDS "or" = some (none))
    (e_NUMBER_BOUNDS_xor : PySem.W.nsIn K g_NUMBER_BOUNDS "xor" = some (none))
    (e_NUMBER_BOUNDS_left : PySem.W.nsIn K g_NUMBER_BOUNDS "left" = some (some u_NUMBER_BOUNDS_left))
    (e_NUMBER_BOUNDS_right : PySem.W.nsIn K g_NUMBER_BOUNDS "right" = some (some u_NUMBER_BOUNDS_right))
    (e_NUMBER_BOUNDS_signed : PySem.W.nsIn K g_NUMBER_BOUNDS "signed" = some (some u_NUMBER_BOUNDS_signed))
    (e_NUMBER_BOUNDS_quo : PySem.W.nsIn K g_NUMBER_BOUNDS "quo" = some (some u_NUMBER_BOUNDS_quo))
    (e_NUMBER_BOUNDS_rem : PySem.W.nsIn K g_NUMBER_BOUNDS "rem" = some (some u_NUMBER_BOUNDS_rem))
    (e_NUMBER_BOUNDS_less : PySem.W.nsIn K g_NUMBER_BOUNDS "less" = some (none))
    (e_NUMBER_BOUNDS_same : PySem.W.nsIn K g_NUMBER_BOUNDS "same" = some (none))
    (e_NUMBER_BOUNDS_pick : PySem.W.nsIn K g_NUMBER_BOUNDS "pick" = some (none))
    : ∃ fd : FuncData, (∀ (s : Shared) (v : Value), BindsTo s fd ⟨[v], []⟩ [("_law_script", v)]) ∧ ∀ base : Heap, K.In base → base.Ns mainGlobals mg → GOk l.prog w K mg base 150 fa fd ["_law_script"] (sp_law K) := by
  have e := hfa.symm.trans (PySem.W.mg_of X G a23)
  cases e
  have T : Top mg := ⟨PySem.W.mg_none_of X G z_int, PySem.W.mg_none_of X G z_isinstance, PySem.W.mg_none_of X G z_len, PySem.W.mg_none_of X G z_list, PySem.W.mg_none_of X G z_max, PySem.W.mg_none_of X G z_range, PySem.W.mg_none_of X G z_sum, PySem.W.mg_none_of X G z_tuple⟩
  have F0 := fun_mk (st := s_greatest_word) l0 c0 k0
  have D0 : Df K mg "greatest_word" s_greatest_word ["width"] _ _ := ⟨F0, PySem.W.mg_of X G a0, F0.binds fun _ _ _ _ _ _ us hl => match us, hl with | [_], _ => rfl⟩
  have F1 := fun_mk (st := s_to_word) l1 c1 k1
  have D1 : Df K mg "to_word" s_to_word ["number", "width"] _ _ := ⟨F1, PySem.W.mg_of X G a1, F1.binds fun _ _ _ _ _ _ us hl => match us, hl with | [_, _], _ => rfl⟩
  have F2 := fun_mk (st := s_signed_value) l2 c2 k2
  have D2 : Df K mg "signed_value" s_signed_value ["word", "width"] _ _ := ⟨F2, PySem.W.mg_of X G a2, F2.binds fun _ _ _ _ _ _ us hl => match us, hl with | [_, _], _ => rfl⟩
  have F3 := fun_mk (st := s_parts_of) l3 c3 k3
  have D3 : Df K mg "parts_of" s_parts_of ["expression"] _ _ := ⟨F3, PySem.W.mg_of X G a3, F3.binds fun _ _ _ _ _ _ us hl => match us, hl with | [_], _ => rfl⟩
  have F4 := fun_mk (st := s_value_by_number) l4 c4 k4
  have D4 : Df K mg "value_by_number" s_value_by_number ["operation", "word", "number", "width"] _ _ := ⟨F4, PySem.W.mg_of X G a4, F4.binds fun _ _ _ _ _ _ us hl => match us, hl with | [_, _, _, _], _ => rfl⟩
  have F5 := fun_mk (st := s__number_of_two) l5 c5 k5
  have D5 : Df K mg "_number_of_two" s__number_of_two ["operation", "x", "y"] _ _ := ⟨F5, PySem.W.mg_of X G a5, F5.binds fun _ _ _ _ _ _ us hl => match us, hl with | [_, _, _], _ => rfl⟩
  have F6 := fun_mk (st := s_value_by_parts) l6 c6 k6
  have D6 : Df K mg "value_by_parts" s_value_by_parts ["operation", "values", "width"] _ _ := ⟨F6, PySem.W.mg_of X G a6, F6.binds fun _ _ _ _ _ _ us hl => match us, hl with | [_, _, _], _ => rfl⟩
  have F7 := fun_mk (st := s_value_at) l7 c7 k7
  have D7 : Df K mg "value_at" s_value_at ["expression", "width", "words"] _ _ := ⟨F7, PySem.W.mg_of X G a7, F7.binds fun _ _ _ _ _ _ us hl => match us, hl with | [_, _, _], _ => rfl⟩
  have F8 := fun_mk (st := s__law_draws) l8 c8 k8
  have D8 : Df K mg "_law_draws" s__law_draws ["_law_script"] _ _ := ⟨F8, PySem.W.mg_of X G a8, F8.binds fun _ _ _ _ _ _ us hl => match us, hl with | [_], _ => rfl⟩
  have F9 := fun_mk (st := s__law_next) l9 c9 k9
  have D9 : Df K mg "_law_next" s__law_next ["_law_drawn", "_law_many"] _ _ := ⟨F9, PySem.W.mg_of X G a9, F9.binds fun _ _ _ _ _ _ us hl => match us, hl with | [_, _], _ => rfl⟩
  have F10 := fun_mk (st := s__law_one) l10 c10 k10
  have D10 : Df K mg "_law_one" s__law_one ["_law_drawn", "_law_items"] _ _ := ⟨F10, PySem.W.mg_of X G a10, F10.binds fun _ _ _ _ _ _ us hl => match us, hl with | [_, _], _ => rfl⟩
  have F11 := fun_mk (st := s__law_width) l11 c11 k11
  have D11 : Df K mg "_law_width" s__law_width ["_law_drawn"] _ _ := ⟨F11, PySem.W.mg_of X G a11, F11.binds fun _ _ _ _ _ _ us hl => match us, hl with | [_], _ => rfl⟩
  have F12 := fun_mk (st := s__law_word) l12 c12 k12
  have D12 : Df K mg "_law_word" s__law_word ["_law_drawn", "_law_width_here"] _ _ := ⟨F12, PySem.W.mg_of X G a12, F12.binds fun _ _ _ _ _ _ us hl => match us, hl with | [_, _], _ => rfl⟩
  have F13 := fun_mk (st := s__law_input) l13 c13 k13
  have D13 : Df K mg "_law_input" s__law_input ["_law_drawn", "_law_width_here"] _ _ := ⟨F13, PySem.W.mg_of X G a13, F13.binds fun _ _ _ _ _ _ us hl => match us, hl with | [_, _], _ => rfl⟩
  have F14 := fun_mk (st := s__law_number) l14 c14 k14
  have D14 : Df K mg "_law_number" s__law_number ["_law_drawn"] _ _ := ⟨F14, PySem.W.mg_of X G a14, F14.binds fun _ _ _ _ _ _ us hl => match us, hl with | [_], _ => rfl⟩
  have F15 := fun_mk (st := s__law_leaf) l15 c15 k15
  have D15 : Df K mg "_law_leaf" s__law_leaf ["_law_drawn"] _ _ := ⟨F15, PySem.W.mg_of X G a15, F15.binds fun _ _ _ _ _ _ us hl => match us, hl with | [_], _ => rfl⟩
  have F16 := fun_mk (st := s__law_counted) l16 c16 k16
  have D16 : Df K mg "_law_counted" s__law_counted ["_law_operation"] _ _ := ⟨F16, PySem.W.mg_of X G a16, F16.binds fun _ _ _ _ _ _ us hl => match us, hl with | [_], _ => rfl⟩
  have F17 := fun_mk (st := s__law_nodes) l17 c17 k17
  have D17 : Df K mg "_law_nodes" s__law_nodes ["_law_expression"] _ _ := ⟨F17, PySem.W.mg_of X G a17, F17.binds fun _ _ _ _ _ _ us hl => match us, hl with | [_], _ => rfl⟩
  have F18 := fun_mk (st := s__law_tree) l18 c18 k18
  have D18 : Df K mg "_law_tree" s__law_tree ["_law_drawn", "_law_size", "_law_kinds"] _ _ := ⟨F18, PySem.W.mg_of X G a18, F18.binds fun _ _ _ _ _ _ us hl => match us, hl with | [_, _, _], _ => rfl⟩
  have F19 := fun_mk (st := s__law_all) l19 c19 k19
  have D19 : Df K mg "_law_all" s__law_all [] _ _ := ⟨F19, PySem.W.mg_of X G a19, F19.binds fun _ _ _ _ _ _ us hl => match us, hl with | [], _ => rfl⟩
  have F20 := fun_mk (st := s__law_sums) l20 c20 k20
  have D20 : Df K mg "_law_sums" s__law_sums ["_law_x", "_law_y"] _ _ := ⟨F20, PySem.W.mg_of X G a20, F20.binds fun _ _ _ _ _ _ us hl => match us, hl with | [_, _], _ => rfl⟩
  have F21 := fun_mk (st := s__law_divisions) l21 c21 k21
  have D21 : Df K mg "_law_divisions" s__law_divisions ["_law_x", "_law_amount", "_law_divisor"] _ _ := ⟨F21, PySem.W.mg_of X G a21, F21.binds fun _ _ _ _ _ _ us hl => match us, hl with | [_, _, _], _ => rfl⟩
  have F22 := fun_mk (st := s__law_choices) l22 c22 k22
  have D22 : Df K mg "_law_choices" s__law_choices ["_law_x", "_law_y", "_law_amount", "_law_width_here"] _ _ := ⟨F22, PySem.W.mg_of X G a22, F22.binds fun _ _ _ _ _ _ us hl => match us, hl with | [_, _, _, _], _ => rfl⟩
  have F23 := fun_mk (st := s_law) l23 c23 k23
  have D23 : Df K mg "law" s_law ["_law_script"] _ _ := ⟨F23, PySem.W.mg_of X G a23, F23.binds fun _ _ _ _ _ _ us hl => match us, hl with | [_], _ => rfl⟩
  refine ⟨PySem.W.fnOf "law" "law" (defArgs s_law) (defBody s_law) (defScope s_law) .none kV23 dc23 pm23 an23 cd23 ct23, fun s v => .of_eq rfl, fun base _ _ => ?_⟩
  have C : Cnt K w mg g_PART_COUNTS g_NUMBER_BOUNDS := by
    have goPART_COUNTS : ∀ (x : Str) (c : Int) (t : Tok), PySem.W.nsIn K g_PART_COUNTS x = some (some (.int c t)) → KDct K w g_PART_COUNTS x (.int c) := fun x c t h => ⟨_, _, _, l_PART_COUNTS, k_PART_COUNTS, h, ⟨t, rfl⟩⟩
    have goNUMBER_BOUNDS : ∀ (x : Str) (r : Option Value), PySem.W.nsIn K g_NUMBER_BOUNDS x = some r → KHas K w g_NUMBER_BOUNDS x r.isSome := fun x r h => ⟨_, _, _, l_NUMBER_BOUNDS, k_NUMBER_BOUNDS, s_NUMBER_BOUNDS, h, rfl⟩
    refine ⟨PySem.W.mg_of X G p_PART_COUNTS, PySem.W.mg_of X G p_NUMBER_BOUNDS, fun e => ?_, fun e => ?_⟩
    · cases e with
      | name i => exact goPART_COUNTS _ _ _ e_PART_COUNTS_name
      | num n => exact goPART_COUNTS _ _ _ e_PART_COUNTS_number
      | un o x =>
        cases o with
        | not => exact goPART_COUNTS _ _ _ e_PART_COUNTS_not
        | neg => exact goPART_COUNTS _ _ _ e_PART_COUNTS_neg
      | sh o x n =>
        cases o with
        | left => exact goPART_COUNTS _ _ _ e_PART_COUNTS_left
        | right => exact goPART_COUNTS _ _ _ e_PART_COUNTS_right
        | signed => exact goPART_COUNTS _ _ _ e_PART_COUNTS_signed
        | quo => exact goPART_COUNTS _ _ _ e_PART_COUNTS_quo
        | rem => exact goPART_COUNTS _ _ _ e_PART_COUNTS_rem
      | bin o x y =>
        cases o with
        | add => exact goPART_COUNTS _ _ _ e_PART_COUNTS_add
        | sub => exact goPART_COUNTS _ _ _ e_PART_COUNTS_sub
        | mul => exact goPART_COUNTS _ _ _ e_PART_COUNTS_mul
        | and => exact goPART_COUNTS _ _ _ e_PART_COUNTS_and
        | or => exact goPART_COUNTS _ _ _ e_PART_COUNTS_or
        | xor => exact goPART_COUNTS _ _ _ e_PART_COUNTS_xor
        | less => exact goPART_COUNTS _ _ _ e_PART_COUNTS_less
        | same => exact goPART_COUNTS _ _ _ e_PART_COUNTS_same
      | pick x y z => exact goPART_COUNTS _ _ _ e_PART_COUNTS_pick
    · cases e with
      | name i => exact goNUMBER_BOUNDS _ _ e_NUMBER_BOUNDS_name
      | num n => exact goNUMBER_BOUNDS _ _ e_NUMBER_BOUNDS_number
      | un o x =>
        cases o with
        | not => exact goNUMBER_BOUNDS _ _ e_NUMBER_BOUNDS_not
        | neg => exact goNUMBER_BOUNDS _ _ e_NUMBER_BOUNDS_neg
      | sh o x n =>
        cases o with
        | left => exact goNUMBER_BOUNDS _ _ e_NUMBER_BOUNDS_left
        | right => exact goNUMBER_BOUNDS _ _ e_NUMBER_BOUNDS_right
        | signed => exact goNUMBER_BOUNDS _ _ e_NUMBER_BOUNDS_signed
        | quo => exact goNUMBER_BOUNDS _ _ e_NUMBER_BOUNDS_quo
        | rem => exact goNUMBER_BOUNDS _ _ e_NUMBER_BOUNDS_rem
      | bin o x y =>
        cases o with
        | add => exact goNUMBER_BOUNDS _ _ e_NUMBER_BOUNDS_add
        | sub => exact goNUMBER_BOUNDS _ _ e_NUMBER_BOUNDS_sub
        | mul => exact goNUMBER_BOUNDS _ _ e_NUMBER_BOUNDS_mul
        | and => exact goNUMBER_BOUNDS _ _ e_NUMBER_BOUNDS_and
        | or => exact goNUMBER_BOUNDS _ _ e_NUMBER_BOUNDS_or
        | xor => exact goNUMBER_BOUNDS _ _ e_NUMBER_BOUNDS_xor
        | less => exact goNUMBER_BOUNDS _ _ e_NUMBER_BOUNDS_less
        | same => exact goNUMBER_BOUNDS _ _ e_NUMBER_BOUNDS_same
      | pick x y z => exact goNUMBER_BOUNDS _ _ e_NUMBER_BOUNDS_pick
  exact GOk.of (ok_law T C D0 D1 D2 D3 D4 D5 D6 D7 D8 D9 D10 D11 D12 D13 D14 D15 D16 D17 D18 D19 D20 D21 D22 D23.fn)
end Lw
open PySem PySem.W PyProof.Rows
set_option maxHeartbeats 0 in
theorem PySem.Challenge.cw_wordsalike_k05_whole_equations_of_operat_holds : PySem.Challenge.rw_wordsalike_k05_whole_equations_of_operat.Holds := by
  w_on; o_law; k_head; (case hw => w_witness2)
  k_fill
  refine Glay.walkG (l := PySem.Challenge.rw_wordsalike_k05_whole_equations_of_operat) (n := 63) (k := 150) (x := "_law_script") (sp := fun w => Lw.sp_law _) rfl (by decide) rfl ⟨rfl, by decide, by decide⟩ (fun w h Y => PySem.W.kIn_of Y) ?F (fun _ _ a ns hl _ hS => ⟨a, ns, rfl, hS, hl, fun _ => rfl⟩)
  case F =>
    intro w mg fa h KX G hmg
    open Lw in
    refine' all_mk KX G hmg ?a0 ?l0 ?c0 ?k0 ?a1 ?l1 ?c1 ?k1 ?a2 ?l2 ?c2 ?k2 ?a3 ?l3 ?c3 ?k3 ?a4 ?l4 ?c4 ?k4 ?a5 ?l5 ?c5 ?k5 ?a6 ?l6 ?c6 ?k6 ?a7 ?l7 ?c7 ?k7 ?a8 ?l8 ?c8 ?k8 ?a9 ?l9 ?c9 ?k9 ?a10 ?l10 ?c10 ?k10 ?a11 ?l11 ?c11 ?k11 ?a12 ?l12 ?c12 ?k12 ?a13 ?l13 ?c13 ?k13 ?a14 ?l14 ?c14 ?k14 ?a15 ?l15 ?c15 ?k15 ?a16 ?l16 ?c16 ?k16 ?a17 ?l17 ?c17 ?k17 ?a18 ?l18 ?c18 ?k18 ?a19 ?l19 ?c19 ?k19 ?a20 ?l20 ?c20 ?k20 ?a21 ?l21 ?c21 ?k21 ?a22 ?l22 ?c22 ?k22 ?a23 ?l23 ?c23 ?k23 ?z_int ?z_isinstance ?z_len ?z_list ?z_max ?z_range ?z_sum ?z_tuple ?p_PART_COUNTS ?l_PART_COUNTS ?k_PART_COUNTS ?s_PART_COUNTS ?e_PART_COUNTS_name ?e_PART_COUNTS_number ?e_PART_COUNTS_not ?e_PART_COUNTS_neg ?e_PART_COUNTS_add ?e_PART_COUNTS_sub ?e_PART_COUNTS_mul ?e_PART_COUNTS_and ?e_PART_COUNTS_or ?e_PART_COUNTS_xor ?e_PART_COUNTS_left ?e_PART_COUNTS_right ?e_PART_COUNTS_signed ?e_PART_COUNTS_quo ?e_PART_COUNTS_rem ?e_PART_COUNTS_less ?e_PART_COUNTS_same ?e_PART_COUNTS_pick ?p_NUMBER_BOUNDS ?l_NUMBER_BOUNDS ?k_NUMBER_BOUNDS ?s_NUMBER_BOUNDS ?e_NUMBER_BOUNDS_name ?e_NUMBER_BOUNDS_number ?e_NUMBER_BOUNDS_not ?e_NUMBER_BOUNDS_neg ?e_NUMBER_BOUNDS_add ?e_NUMBER_BOUNDS_sub ?e_NUMBER_BOUNDS_mul ?e_NUMBER_BOUNDS_and ?e_NUMBER_BOUNDS_or ?e_NUMBER_BOUNDS_xor ?e_NUMBER_BOUNDS_left ?e_NUMBER_BOUNDS_right ?e_NUMBER_BOUNDS_signed ?e_NUMBER_BOUNDS_quo ?e_NUMBER_BOUNDS_rem ?e_NUMBER_BOUNDS_less ?e_NUMBER_BOUNDS_same ?e_NUMBER_BOUNDS_pick
    (case a0 => k_is)
    (case l0 => k_is)
    (case c0 => k_is)
    (case k0 => k_is)
    (case a1 => k_is)
    (case l1 => k_is)
    (case c1 => k_is)
    (case k1 => k_is)
    (case a2 => k_is)
    (case l2 => k_is)
    (case c2 => k_is)
    (case k2 => k_is)
    (case a3 => k_is)
    (case l3 => k_is)
    (case c3 => k_is)
    (case k3 => k_is)
    (case a4 => k_is)
    (case l4 => k_is)
    (case c4 => k_is)
    (case k4 => k_is)
    (case a5 => k_is)
    (case l5 => k_is)
    (case c5 => k_is)
    (case k5 => k_is)
    (case a6 => k_is)
    (case l6 => k_is)
    (case c6 => k_is)
    (case k6 => k_is)
    (case a7 => k_is)
    (case l7 => k_is)
    (case c7 => k_is)
    (case k7 => k_is)
    (case a8 => k_is)
    (case l8 => k_is)
    (case c8 => k_is)
    (case k8 => k_is)
    (case a9 => k_is)
    (case l9 => k_is)
    (case c9 => k_is)
    (case k9 => k_is)
    (case a10 => k_is)
    (case l10 => k_is)
    (case c10 => k_is)
    (case k10 => k_is)
    (case a11 => k_is)
    (case l11 => k_is)
    (case c11 => k_is)
    (case k11 => k_is)
    (case a12 => k_is)
    (case l12 => k_is)
    (case c12 => k_is)
    (case k12 => k_is)
    (case a13 => k_is)
    (case l13 => k_is)
    (case c13 => k_is)
    (case k13 => k_is)
    (case a14 => k_is)
    (case l14 => k_is)
    (case c14 => k_is)
    (case k14 => k_is)
    (case a15 => k_is)
    (case l15 => k_is)
    (case c15 => k_is)
    (case k15 => k_is)
    (case a16 => k_is)
    (case l16 => k_is)
    (case c16 => k_is)
    (case k16 => k_is)
    (case a17 => k_is)
    (case l17 => k_is)
    (case c17 => k_is)
    (case k17 => k_is)
    (case a18 => k_is)
    (case l18 => k_is)
    (case c18 => k_is)
    (case k18 => k_is)
    (case a19 => k_is)
    (case l19 => k_is)
    (case c19 => k_is)
    (case k19 => k_is)
    (case a20 => k_is)
    (case l20 => k_is)
    (case c20 => k_is)
    (case k20 => k_is)
    (case a21 => k_is)
    (case l21 => k_is)
    (case c21 => k_is)
    (case k21 => k_is)
    (case a22 => k_is)
    (case l22 => k_is)
    (case c22 => k_is)
    (case k22 => k_is)
    (case a23 => k_is)
    (case l23 => k_is)
    (case c23 => k_is)
    (case k23 => k_is)
    (case z_int => k_is)
    (case z_isinstance => k_is)
    (case z_len => k_is)
    (case z_list => k_is)
    (case z_max => k_is)
    (case z_range => k_is)
    (case z_sum => k_is)
    (case z_tuple => k_is)
    (case p_PART_COUNTS => k_is)
    (case l_PART_COUNTS => k_is)
    (case k_PART_COUNTS => k_keys)
    (case s_PART_COUNTS => decide)
    (case e_PART_COUNTS_name => k_is)
    (case e_PART_COUNTS_number => k_is)
    (case e_PART_COUNTS_not => k_is)
    (case e_PART_COUNTS_neg => k_is)
    (case e_PART_COUNTS_add => k_is)
    (case e_PART_COUNTS_sub => k_is)
    (case e_PART_COUNTS_mul => k_is)
    (case e_PART_COUNTS_and => k_is)
    (case e_PART_COUNTS_or => k_is)
    (case e_PART_COUNTS_xor => k_is)
    (case e_PART_COUNTS_left => k_is)
    (case e_PART_COUNTS_right => k_is)
    (case e_PART_COUNTS_signed => k_is)
    (case e_PART_COUNTS_quo => k_is)
    (case e_PART_COUNTS_rem => k_is)
    (case e_PART_COUNTS_less => k_is)
    (case e_PART_COUNTS_same => k_is)
    (case e_PART_COUNTS_pick => k_is)
    (case p_NUMBER_BOUNDS => k_is)
    (case l_NUMBER_BOUNDS => k_is)
    (case k_NUMBER_BOUNDS => k_keys)
    (case s_NUMBER_BOUNDS => decide)
    (case e_NUMBER_BOUNDS_name => k_is)
    (case e_NUMBER_BOUNDS_number => k_is)
    (case e_NUMBER_BOUNDS_not => k_is)
    (case e_NUMBER_BOUNDS_neg => k_is)
    (case e_NUMBER_BOUNDS_add => k_is)
    (case e_NUMBER_BOUNDS_sub => k_is)
    (case e_NUMBER_BOUNDS_mul => k_is)
    (case e_NUMBER_BOUNDS_and => k_is)
    (case e_NUMBER_BOUNDS_or => k_is)
    (case e_NUMBER_BOUNDS_xor => k_is)
    (case e_NUMBER_BOUNDS_left => k_is)
    (case e_NUMBER_BOUNDS_right => k_is)
    (case e_NUMBER_BOUNDS_signed => k_is)
    (case e_NUMBER_BOUNDS_quo => k_is)
    (case e_NUMBER_BOUNDS_rem => k_is)
    (case e_NUMBER_BOUNDS_less => k_is)
    (case e_NUMBER_BOUNDS_same => k_is)
    (case e_NUMBER_BOUNDS_pick => k_is)
