import PyProof.Rows.All
import Wide.All
import OpenK.AllK
import Wide.FinOn
import HandS.ForMost
import PyProof.ReprRoads
import HandS.Wide
import HandS.Style
import HandS.Evl
import HandS.Conv
import HandS.Replace
import HandS.Small
import PyProof.EqAt
import PyProof.NeKinds
import PyProof.AutoSeq1
import HandS.Star
import HandS.SortKw
import KE.DatumOrd
import KE.KDictPairs
import HandS.Zip
import HandS.More
import HandS.IsInst
import PyProof.P3In
import HandS.NoneIn
import HandS.WrittenGet
import HandS.Walk
import HandS.Text
import HandS.Flow
import HandS.Set
import HandS.SetBool
import HandS.SetKeys
import PyProof.Rows.SortStr
import HandS.Strs
import HandS.TupAny
import HandS.Codes
import PyProof.Rows.StrDigitsNeg
import HandS.Call
import HandS.StrMore
import HandS.FStr
import PySem.Challenge.RW_lookdone_k07_texts_of_expressions
set_option Elab.async false
set_option linter.all false
set_option maxRecDepth 100000
set_option maxHeartbeats 4000000
namespace GR
open PySem PySem.Spec PyProof.Rows L2

/-! ### data that stands in the abstract heap -/
section
variable {X : Cx} {pins : List (Addr × Obj)} {σ : L2.St} {H : Hp} {s : Shared}
mutual
theorem nodict {K : PySem.W.Frag} : ∀ {v : V} {d : PyData}, Dp K H v d → d.hasDict = false
  | _, _, .non => by simp only [PyData.hasDict]
  | _, _, .bl b => by simp only [PyData.hasDict]
  | _, _, .int i => by simp only [PyData.hasDict]
  | _, _, .str x => by simp only [PyData.hasDict]
  | _, _, .lst _ q => by simp only [PyData.hasDict, nodicts q]
  | _, _, .tup _ q => by simp only [PyData.hasDict, nodicts q]
theorem nodicts {K : PySem.W.Frag} : ∀ {vs : List V} {ds : List PyData}, DpAll K H vs ds → PyData.hasDictAll ds = false
  | _, _, .nil => by simp only [PyData.hasDictAll]
  | _, _, .cons h q => by simp only [PyData.hasDictAll, nodict h, nodicts q, Bool.or_self]
end

/-- repr of a list or a tuple of data -/
def rRepr (X : Cx) : List V → Hp → VK → Prop := fun xs H Q => ∃ (a : Addr) (d : PyData), xs = [.ref a] ∧ Dp X.K H (.ref a) d ∧ d.showable = true ∧ d.depth ≤ 60 ∧ d.shown.length ≤ sizeLine ∧ Q (.str d.shown) H
theorem call_reprD {k : Nat} (hg : X.A.guards = some []) (hr : Room k X.A) : CallR X (.builtin "repr") (rRepr X) := by
  intro pins s σ H xs us Q I r h
  obtain ⟨a, d, rfl, hd, hs, hdep, hz, q⟩ := h
  obtain ⟨u, rfl, rv⟩ := vals1 r
  obtain rfl : u = Value.ref a := rv
  obtain ⟨as, hR⟩ := Dp.reads I d _ _ hd rfl
  have hu := hr.units
  exact repr_of_reads' hR hs (PyData.noDict_hsm (nodict hd)) hg (by omega) (fun _ _ e => e) (fun h' u tk hk => ⟨.str d.shown, H, I.kept hk, ⟨_, rfl⟩, q⟩) hz
end

/-! ### defs that show things: a promise kept wherever nothing is being shown -/
structure FnG (P : Program) (w : World) (K : PySem.W.Frag) (mg : Str → Option Value) (base : Heap) (CX : CXT) (k : Nat) (f : Addr) (fd : FuncData) (ps : List Str) (sp : Sp) : Prop where
  size : ∀ vs H Q E, sp vs H Q E → vs.length = ps.length
  go : ∀ (A : Around) (outer : List Env) (s : Shared) (H : Hp) (args : Args) (us : List Value) (vs : List V) (Q : VK) (E : XK),
    A.guards = some [] → Room k A → Env0 P w K mg base A outer s H → BindsTo s fd args (ps.zip us) → Vals vs us → sp vs H Q E →
    codeAny (model P w) A (.call (.ref f) args) (CR CX outer P w H s Q E) s

section
variable {P : Program} {w : World} {K : PySem.W.Frag} {mg : Str → Option Value} {base : Heap}
theorem FnG.of {CX : CXT} {k : Nat} {f : Addr} {fd : FuncData} {ps : List Str} {sp : Sp} (F : FnOk P w K mg base CX k f fd ps sp) : FnG P w K mg base CX k f fd ps sp :=
  ⟨F.len, fun A outer s H args us vs Q E _ => F.run A outer s H args us vs Q E⟩

/-- a def by its body, where nothing is being shown -/
theorem ok_g {x qual : Str} {st : Stmt} {f : Addr} {fd : FuncData} {N ps : List Str} {k : Nat} {sp : Sp} (F : Fun K x qual st f fd) (S : FnScope N ps (defScope st)) (size : ∀ vs H Q E, sp vs H Q E → vs.length = ps.length)
    (body : ∀ (cdv : Value) (A : Around) (outer : List Env) (s : Shared) (H : Hp) (vs : List V) (Q : VK) (E : XK), A.guards = some [] → Room k (A.deeper (envOfC qual (defScope st) s.heap.objs.size f cdv)) → sp vs H Q E →
      ∃ t, PSs (cxOf CX0 P w K mg base N qual (defScope st) f cdv A outer s H E).nox (defBody st) t ∧ t { nx := fun _ H' => Q .non H', rt := Q } (start N vs) H) : FnG P w K mg base CX0 (k + 1) f fd ps sp := by
  obtain ⟨oc, od, kV, doc, pm, an, cdv, ct, osl, rfl, lk, hcd⟩ := F.ex
  constructor
  · exact size
  intro A outer s H args us vs Q E gA room e0 bnd rel hsp
  have inK : K.In s.heap := e0.mod.kin.keeps (fun b o q => (e0.bs b o q).1)
  have nolim := e0.mod.nolimit.keeps (fun b o q => (e0.bs b o q).1)
  obtain ⟨t, ht, hq⟩ := body cdv A outer s H vs Q E gA (room.deeper _) hsp
  refine codeAny_call_function room.depth (inK f _ lk) rfl S.co S.gen rfl (PySem.W.codeRec_of inK hcd) (bnd _ _ _ _ ?_)
  refine wpAny_newFunctionEnv_cells S.kind ?par (fun env he s1 inC => ?run)
  case par =>
    rintro ⟨n, v⟩ hy
    rcases S.par n (List.of_mem_zip hy).1 with q | q
    · exact Or.inl q
    · exact Or.inr ⟨q, PySem.W.cellsFrom_some _ _ _ (Or.inl q)⟩
  case run =>
    cases he
    refine And.intro (nolim.keeps inC.toInCall.keep) (codeAny_func ?_)
    have I0 := inv_start (CX := CX0) (P := P) (w := w) (K := K) (mg := mg) (base := base) (E := E) S room.hd e0 (size _ _ _ _ hsp) rel inC
    refine wpAny_mono (ht.nox.run [] s1 (start N vs) H _ I0 hq) ?_ (fun _ _ z => z)
    rintro fl s' hs
    have close : ∀ (σ' : L2.St) (H' : Hp) (v : V) (u : Value), Inv (cxOf CX0 P w K mg base N qual (defScope st) f cdv A outer s H E) [] σ' H' s' → RelV v u → Q v H' → CE outer P w H s Q u s' := by
      intro σ' H' v u J rv q
      exact ⟨v, H', J.os, J.bare, J.base, J.hok, rv, q⟩
    cases fl
    case ret u => obtain ⟨v, σ', H', J, rv, q⟩ := hs; exact close _ _ _ _ J rv q
    case next => obtain ⟨σ', H', J, q⟩ := hs; exact close _ _ V.non Value.none J rfl q
    case brk => obtain ⟨_, _, _, q⟩ := hs; exact q.elim
    case cont => obtain ⟨_, _, _, q⟩ := hs; exact q.elim
end

section
variable {X : Cx} {CX : CXT} {k : Nat} {f : Addr} {fd : FuncData} {ps : List Str} {sp : Sp} {E : XK} {x : Str} {p pos : Pos} {e : Expr} {es : List Expr} {t : TA}
/-- its call -/
theorem pe_callG (F : FnG X.prog X.w X.K X.mg X.base CX k f fd ps sp) (hg : X.A.guards = some []) (hr : Room k X.A) (gx : Gl X x) (hm : X.mg x = some (.ref f)) (hk : PySem.W.keepIn X.K (.ref f) = true) (hb : Binds X.K fd ps []) (hx : Passes CX X E)
    (ha : PA X (e :: es) t) (hdb : (x == ("__debug__" : Str)) = false := by decide) (he : starEach (e :: es) X.env = (false, eval e X.env) :: starEach es X.env := by rfl) (hpl : (backTo pos (starEach es X.env)).any (·.1) = false := by rfl) :
    PE X (.Call (.Name x p) (e :: es) [] pos) (tCall sp [] E t) := by
  constructor
  intro pins s σ H Q I h
  refine wpAny_Call_Name_kw (ld_glob I gx hm (PySem.W.callWith_K (h₀ := X.base) I.ok.mod.kin hk (thn (ha.run pos pins s σ H _ I h) ?_) he hpl) hdb)
  rintro us s1 ⟨vs, H1, I1, r, q⟩
  refine ⟨I1.kIn, ?_⟩
  have q' : sp vs H1 Q E := by simpa using q
  have hl : us.length = ps.length := by
    rw [← r.length]
    exact F.size _ _ _ _ q'
  have hB := hb s1 us I1.kIn (by simpa using hl)
  rw [List.append_nil] at hB
  refine wpAny_call (codeAny_mono (F.go X.A X.stack s1 H1 ⟨us, []⟩ us vs Q E hg hr I1.env0 hB r q') ?_)
  rintro (er | fl) s2 hq
  · exact hx pins σ H1 s1 er s2 I1 hq
  · cases fl
    case ret u => exact I1.after hq
    case next => exact hq.elim
    case brk => exact hq.elim
    case cont => exact hq.elim
end

/-- a comprehension without a test -/
theorem yes_then {σ : L2.St} {H : Hp} {A B : Hp → Prop} (h : A H) : tYes σ H (fun b H3 => if b = true then A H3 else B H3) := by
  show (if true = true then A H else B H)
  rw [if_pos rfl]
  exact h

/-! ### the law's own call -/
/-- the abstract heap in which the script alone is tracked, as it stands -/
def scriptHp (a : Addr) (o : Obj) (xs : List V) : Hp := fun b => if b = a then some (.frz o (.lst xs)) else none
theorem scriptHp_at {a : Addr} {o : Obj} {xs : List V} : scriptHp a o xs a = some (.frz o (.lst xs)) := if_pos rfl
theorem scriptHp_some {a b : Addr} {o : Obj} {xs : List V} {u : HO} (h : scriptHp a o xs b = some u) : b = a ∧ u = .frz o (.lst xs) := by
  unfold scriptHp at h
  split at h
  · rename_i e
    exact ⟨e, (Option.some.inj h).symm⟩
  · cases h

theorem ns_hid {h : Heap} {H : Hp} {b : Addr} {m : Str → Option Value} (q : h.Ns b m) (hb : H b = none) : (hidT h H).Ns b m := by
  obtain ⟨o, es, ep, e, r⟩ := q
  exact ⟨o, es, ep, hidT_get e hb, r⟩

theorem law_callG {P : Program} {w : World} {K : PySem.W.Frag} {mg mb : Str → Option Value} {k : Nat} {fa a : Addr} {fd : FuncData} {x : Str} {sp : Sp} {s₁ : Shared} {vs : List Value} {ns : List Int}
    (KX : K.In s₁.heap) (hns : s₁.heap.Ns mainGlobals mg) (hb : s₁.heap.Ns builtinsNs mb) (hbb : ∀ x : Str, x ≠ "__name__" → mb x = bootBuiltins x) (hlim : s₁.heap.NoLimit) (hg : s₁.gens = #[])
    (ha : s₁.heap.get? a = some { cls := .type "list", data := .seq vs.toArray }) (hi : IntsAre vs ns) (hl : ns.length ≤ sizeLine) (hr : Room k callerA)
    (F : ∀ base : Heap, K.In base → base.Ns mainGlobals mg → FnG P w K mg base CX0 k fa fd [x] sp) (hbind : ∀ (s : Shared) (u : Value), BindsTo s fd ⟨[u], []⟩ [(x, u)])
    (hsp : ∀ H : Hp, Only H → SqL K H a (ns.map V.int) → sp [.ref a] H (fun v _ => v = .bl true) fun _ _ _ => False) :
    codeAny (model P w) callerA (.call (.ref fa) ⟨[.ref a], []⟩) (fun r s' => r = .ok (.ret (.bool true)) ∧ OldK s₁.heap s'.heap ∧ s'.os = s₁.os ∧ AllBare s'.gens) s₁ := by
  have main : ∀ H : Hp, Only H → SqL K H a (ns.map V.int) → HOk P w H s₁.heap → (∀ b u, H b = some u → b = a ∧ K.lookup a = none) →
      codeAny (model P w) callerA (.call (.ref fa) ⟨[.ref a], []⟩) (fun r s' => r = .ok (.ret (.bool true)) ∧ OldK s₁.heap s'.heap ∧ s'.os = s₁.os ∧ AllBare s'.gens) s₁ := by
    intro H only seq ok one
    have free : ∀ b, (∀ o n, s₁.heap.get? b = some o → o.data ≠ .seq vs.toArray n) → H b = none := by
      intro b nb
      cases q : H b with
      | none => rfl
      | some u =>
        obtain ⟨rfl, _⟩ := one b u q
        exact absurd rfl (nb _ _ ha)
    have freeD : ∀ {b : Addr} {m : Str → Option Value}, s₁.heap.Ns b m → H b = none := by
      rintro b m ⟨o, es, ep, e, d, _⟩
      refine free b fun o' n e' d' => ?_
      rw [e] at e'
      cases e'
      rw [d] at d'
      cases d'
    have inB : K.In (hidT s₁.heap H) := by
      intro b o e
      refine hidT_get (KX b o e) ?_
      cases q : H b with
      | none => rfl
      | some u =>
        obtain ⟨rfl, z⟩ := one b u q
        rw [z] at e
        cases e
    have gB := ns_hid hns (freeD hns)
    have md : Mod K mg (hidT s₁.heap H) := by
      refine ⟨inB, gB, ⟨mb, ns_hid hb (freeD hb), hbb⟩, ?_⟩
      obtain ⟨mc, h1, h2⟩ := hlim
      exact ⟨mc, ns_hid h1 (freeD h1), h2⟩
    have start0 : Env0 P w K mg (hidT s₁.heap H) callerA [] s₁ H := by
      constructor
      · rfl
      · exact md
      · exact fun b o e => of_hidT e
      · exact Nat.le_of_eq (hidT_size _ _)
      · trivial
      · intro b hb
        exact absurd (show b ∈ ([] : List Addr) from hb) (by simp)
      · exact ok
      · exact .of_eq hg
    have run := (F _ inB gB).go callerA [] s₁ H ⟨[.ref a], []⟩ [.ref a] [.ref a] (fun v _ => v = .bl true) (fun _ _ _ => False) rfl hr start0 (hbind s₁ (.ref a)) (.cons rfl .nil) (hsp H only seq)
    refine codeAny_mono run ?_
    rintro (er | fl) s' h
    · exact False.elim h
    cases fl with
    | next => exact False.elim h
    | brk => exact False.elim h
    | cont => exact False.elim h
    | ret u =>
      obtain ⟨v, H', os, bare, un, ok', rv, q⟩ := h
      cases (show v = .bl true from q)
      cases (show u = Value.bool true from rv)
      refine ⟨rfl, OldK.of_keep ?_, os, bare⟩
      intro b o e
      cases z : H b with
      | none => exact un.keep b o e z (fun m => absurd (show b ∈ ([] : List Addr) from m) (by simp)) (by simp)
      | some u =>
        rcases only b with z' | ⟨ob, xs, z'⟩
        · rw [z] at z'
          cases z'
        · have e1 := (ok b _ z').1
          have e2 := (ok' b _ (un.frzs b ob _ z')).1
          rw [e] at e1
          rw [e1]
          exact e2
  have rv := vals_ints hi
  cases hk : K.lookup a with
  | some o =>
    have e := KX a o hk
    rw [ha] at e
    cases e
    refine main (fun _ => none) (fun _ => .inl rfl) (.inr ⟨_, vs.toArray, _, hk, rfl, rfl, rfl, ?_, by simpa using rv⟩) ?_ ?_
    · rw [List.size_toArray, hi.length]
      exact hl
    · intro b u z
      cases z
    · intro b u z
      cases z
  | none =>
    refine main (scriptHp a { cls := .type "list", data := .seq vs.toArray } (ns.map V.int)) ?_ (.inl (.inr ⟨_, scriptHp_at⟩)) ?_ ?_
    · intro b
      cases z : scriptHp a { cls := .type "list", data := .seq vs.toArray } (ns.map V.int) b with
      | none => exact .inl rfl
      | some u => exact .inr ⟨_, _, by rw [(scriptHp_some z).2]⟩
    · intro b u z
      obtain ⟨rfl, rfl⟩ := scriptHp_some z
      refine ⟨ha, ?_, vs, _, rv, ha⟩
      rw [List.length_map]
      exact hl
    · intro b u z
      exact ⟨(scriptHp_some z).1, hk⟩

theorem walk_g {l : PySem.W.OpenLaw} {n k : Nat} {q : Program} {loose : List Str} {XP : (Str → Option Value) → Heap → Prop} {YP : World → Heap → Prop} {d : DefRec} {K : Params → PySem.W.Frag} {sp : PySem.W.Frag → Sp} {x : Str}
    (hn : l.most = some n) (hn2 : n ≤ sizeLine) (hdf : d.params.defaults = []) (hr : Room k callerA)
    (hY : ∀ (w : World) (h : Heap), YP w h → (K w.params).In h)
    (F : ∀ (w : World) (mg : Str → Option Value) (fa : Addr) (h : Heap), (K w.params).In h → h.Ns mainGlobals mg → mg d.name = some (.ref fa) →
      ∃ fd : FuncData, (∀ (s : Shared) (u : Value), BindsTo s fd ⟨[u], []⟩ [(x, u)]) ∧
        ∀ base : Heap, (K w.params).In base → base.Ns mainGlobals mg → FnG l.prog w (K w.params) mg base CX0 k fa fd [x] (sp (K w.params)))
    (hsp : ∀ (K : PySem.W.Frag) (H : Hp) (a : Addr) (ns : List Int), ns.length ≤ n → Only H → SqL K H a (ns.map V.int) → sp K [.ref a] H (fun v _ => v = .bl true) fun _ _ _ => False) :
    PySem.W.WalkO q loose XP YP l.row.toRowW d [] (fun f vs => PySem.call f vs) := by
  apply Att.attach_call hn hdf
  intro w s₀ s₁ mg mb fa o pm cd doc a vs ns G Y ho hd hcd hmg hobj hints hlen hg
  obtain ⟨fd, bnd, keeps⟩ := F w mg fa _ (hY w _ Y) G.T.g hmg
  exact law_callG (hY w _ Y) G.T.g G.T.b G.T.builtins G.T.nolimit hg hobj hints (Nat.le_trans hlen hn2) hr keeps bnd (fun H => hsp _ H a ns hlen)
end GR

namespace K7
open PySem PySem.Spec PyProof.Rows L2 GR
abbrev LIM : Int := 1000000000000000000
def topS (i : Nat) : Stmt := PySem.Challenge.pw_lookdone_k07_texts_of_expressions.main.body.getD i (.Pass ⟨0, 0, 0, 0⟩)
theorem same_upd {H : Hp} {p : Addr} {o : HO} (h : H p = none) : Same H (upd H p o) := fun b x e => by
  rw [upd_ne (ne_of_none e h)]
  exact e
theorem le2 : 2 ≤ sizeLine := by decide
theorem at0 {xs : List V} {v : V} : atI (v :: xs) 0 = some v := atI_nat (j := 0) rfl
theorem at1 {xs : List V} {v u : V} : atI (u :: v :: xs) 1 = some v := atI_nat (j := 1) rfl
theorem at2 {xs : List V} {v u t : V} : atI (t :: u :: v :: xs) 2 = some v := atI_nat (j := 2) rfl
theorem at3 {xs : List V} {v u t s : V} : atI (s :: t :: u :: v :: xs) 3 = some v := atI_nat (j := 3) rfl
/-! ### the law's deck -/
/-- the deck at d: the cells at c, a number, the count of draws, at most N -/
def Deck (H : Hp) (d c : Addr) (N : Int) : Prop := ∃ (cells : List Int) (m n : Int), H d = some (.lst [.ref c, .int m, .int n]) ∧ H c = some (.lst (cells.map V.int)) ∧ cells.length ≤ 63 ∧ 0 ≤ n ∧ n ≤ N
theorem Deck.ne {H : Hp} {d c : Addr} {N : Int} (h : Deck H d c N) : c ≠ d := by
  obtain ⟨cells, m, n, h1, h2, _⟩ := h
  rintro rfl
  rw [h1] at h2
  have e := HO.lst.inj (Option.some.inj h2)
  cases cells with
  | nil => cases e
  | cons x r =>
    have := (List.cons.inj e).1
    cases this
theorem Deck.mono {H : Hp} {d c : Addr} {N M : Int} (h : Deck H d c N) (hm : N ≤ M) : Deck H d c M := by
  obtain ⟨cells, m, n, h1, h2, h3, h4, h5⟩ := h
  exact ⟨cells, m, n, h1, h2, h3, h4, Int.le_trans h5 hm⟩
/-- all but the deck is as it was -/
def Keep (d c : Addr) (H H' : Hp) : Prop := ∀ b o, b ≠ d → b ≠ c → H b = some o → H' b = some o
theorem Keep.refl {d c : Addr} {H : Hp} : Keep d c H H := fun _ _ _ _ e => e
theorem Keep.trans {d c : Addr} {H H1 H2 : Hp} (a : Keep d c H H1) (b : Keep d c H1 H2) : Keep d c H H2 := fun x o h1 h2 e => b x o h1 h2 (a x o h1 h2 e)
theorem Keep.of {d c : Addr} {H H' : Hp} (s : Same H H') : Keep d c H H' := fun b o _ _ e => s b o e
theorem Deck.same {H H' : Hp} {d c : Addr} {N : Int} (h : Deck H d c N) (s : Same H H') : Deck H' d c N := by
  obtain ⟨cells, m, n, h1, h2, h3⟩ := h
  exact ⟨cells, m, n, s _ _ h1, s _ _ h2, h3⟩
/-- a tuple, a list that is not the deck's stays -/
theorem Keep.tup {d c p : Addr} {H H' : Hp} {N : Int} {xs : List V} (s : Keep d c H H') (D : Deck H d c N) (h : H p = some (.tup xs)) : H' p = some (.tup xs) := by
  obtain ⟨cells, m, n, h1, h2, _⟩ := D
  exact s p _ (ne_of h h1 (fun z => by cases z)) (ne_of h h2 (fun z => by cases z)) h
theorem dp_ints {K : PySem.W.Frag} {H : Hp} : ∀ ns : List Int, DpAll K H (ns.map V.int) (ns.map PyData.int)
  | [] => .nil
  | n :: ns => .cons (.int n) (dp_ints ns)
theorem lay_ints : ∀ ns : List Int, PyData.canLayAll0 (ns.map PyData.int) = true
  | [] => by simp only [List.map_nil, PyData.canLayAll0]
  | n :: ns => by simp only [List.map_cons, PyData.canLayAll0, PyData.canLay0, lay_ints ns, Bool.and_self]
theorem depth_ints : ∀ ns : List Int, PyData.depthAll (ns.map PyData.int) ≤ 1
  | [] => by simp only [List.map_nil, PyData.depthAll]; omega
  | n :: ns => by
    have := depth_ints ns
    simp only [List.map_cons, PyData.depthAll, PyData.depth]
    omega
theorem shaped_ints (ns : List Int) : SeqAt.shaped (.list (ns.map PyData.int)) = true := by
  have := depth_ints ns
  unfold SeqAt.shaped
  rw [Bool.and_eq_true]
  refine ⟨by simp only [PyData.canLay0, lay_ints], decide_eq_true ?_⟩
  simp only [PyData.depth]
  omega
theorem neq_nil : ∀ ns : List Int, (!PyData.eqv (.list (ns.map PyData.int)) (.list [])) = !ns.isEmpty
  | [] => by simp only [List.map_nil, PyData.eqv, PyData.eqvAll, List.isEmpty_nil]
  | n :: ns => by simp only [List.map_cons, PyData.eqv, PyData.eqvAll, List.isEmpty_cons]

def num1 (z n : Int) : Int := (z % 2147483629 + 8609 * (n + 1) * (n + 1) + 61) * 48271 % 2147483647
theorem num1_rng (z n : Int) : -(2 ^ 64) < num1 z n ∧ num1 z n < 2 ^ 64 := by
  unfold num1
  omega
def num2 (x n : Int) : Int := (x * x + 69621 * x + (n + 1)) % 2147483587
theorem num2_rng (x n : Int) : -(2 ^ 64) < num2 x n ∧ num2 x n < 2 ^ 64 := by
  unfold num2
  omega

section
variable {P : Program} {w : World} {K : PySem.W.Frag} {mg : Str → Option Value} {base : Heap}
abbrev s_law_draw : Stmt := topS 35
theorem sc_law_draw : FnScope ["_law_deck_here", "_law_most", "_law_cell", "_law_number"] ["_law_deck_here", "_law_most"] (defScope s_law_draw) := ⟨rfl, rfl, rfl, by decide +kernel, rfl, by decide +kernel, by decide +kernel⟩
def sp_draw : Sp := fun vs H Q _ => ∃ (d c : Addr) (N most : Int), vs = [.ref d, .int most] ∧ Deck H d c N ∧ N < 2 ^ 60 ∧ 0 < most ∧ most < 2 ^ 100 ∧
  ∀ H' r, Keep d c H H' → Deck H' d c (N + 1) → 0 ≤ r → r < most → Q (.int r) H'
theorem ok_draw {f : Addr} {fd : FuncData} {k : Nat} (F : Fun K "_law_draw" "_law_draw" s_law_draw f fd) :
    FnOk P w K mg base CX0 (k + 1) f fd ["_law_deck_here", "_law_most"] sp_draw := by
  have nd := sc_law_draw.nd
  refine F.ok sc_law_draw (fun vs H Q E h => ?_) (fun cdv A outer s H vs Q E hr h => ?_)
  · obtain ⟨d, c, N, most, rfl, _⟩ := h
    rfl
  obtain ⟨d, c, N, most, rfl, D, hN, hm0, hm1, q⟩ := h
  have hcd := D.ne
  obtain ⟨cells, m, n, hd, hc, hlen, hn0, hn1⟩ := D
  refine ⟨_, (pss_cons (ps_asg (pe_op op_add (pe_ix ix_list (pv 0) pe_int (fun _ _ => rfl)) pe_int) (pg_sub (pv 0) pe_int set_list))
      (pss_cons (ps_set (i := 2) nd rfl (.inl rfl) (pe_ix ix_list (pv 0) pe_int (fun _ _ => rfl)))
      (Evl.pss_cut (ps_if (pt_cmpR (op_neD hr.units) (pe_ix ix_list (pv 0) pe_int (fun _ _ => rfl)) (pe_lst pa_nil) (nomark _))
      (pss_cons (ps_set (i := 2) nd rfl (.inl rfl) (pe_bm0 PySem.F.plainAttrs_list PySem.F.slot_list_pop PySem.F.type_list_pop mt_pop (pe_ix ix_list (pv 0) pe_int (fun _ _ => rfl))))
        (pss_one (ps_if (pt_cmpR op_ge (pv 2) (pe_op op_pow pe_int pe_int) (nomark _))
        (pss_cons (ps_expr (pe_bm PySem.F.plainAttrs_list PySem.F.slot_list_append PySem.F.type_list_append mt_append (pe_ix ix_list (pv 0) pe_int (fun _ _ => rfl)) (pa_cons (pe_op op_fdivW (pv 2) (pv 1)) pa_nil)))
          (pss_one (ps_ret (pe_op op_mod (pv 2) (pv 1)))))
        pss_nil)))
      pss_nil)
      (pss_cons (ps_set (i := 3) nd rfl (.inl rfl) (pe_op op_mod (pe_op op_mul (pe_op op_add (pe_op op_add (pe_op op_mod (pv 2) pe_int) (pe_op op_mul (pe_op op_mul pe_int (pe_ix ix_list (pv 0) pe_int (fun _ _ => rfl))) (pe_ix ix_list (pv 0) pe_int (fun _ _ => rfl)))) pe_int) pe_int) pe_int))
      (pss_cons (ps_set (i := 3) nd rfl (.inl rfl) (pe_op op_mod (pe_op op_add (pe_op op_add (pe_op op_mul (pv 3) (pv 3)) (pe_op op_mul pe_int (pv 3))) (pe_ix ix_list (pv 0) pe_int (fun _ _ => rfl))) pe_int))
      (pss_one (ps_ret (pe_op op_mod (pe_op op_fdivW (pe_op op_mod (pe_op op_mul (pv 3) (pe_op op_add (pe_op op_fdivW (pv 3) pe_int) pe_int)) pe_int) pe_int) (pv 1))))))))), ?_⟩
  refine ⟨.ref d, rfl, d, _, 2, _, rfl, rfl, .inl (.inl hd), at2, _, _, rfl, rfl, .ref d, rfl, d, _, 2, 2, rfl, rfl, hd, rfl, ?_⟩
  -- the deck with one draw more
  have h1d : upd H d (.lst [.ref c, .int m, .int (n + 1)]) d = some (.lst [.ref c, .int m, .int (n + 1)]) := upd_same
  have h1c : upd H d (.lst [.ref c, .int m, .int (n + 1)]) c = some (.lst (cells.map V.int)) := by
    rw [upd_ne hcd]
    exact hc
  have k1 : Keep d c H (upd H d (.lst [.ref c, .int m, .int (n + 1)])) := fun b o nb _ e => by
    rw [upd_ne nb]
    exact e
  refine ⟨.ref d, rfl, d, _, 1, _, rfl, rfl, .inl (.inl h1d), at1, ?_⟩
  have wd : CDivW 0 most := wide_div hm0 (b := 100) (by omega) (by decide) (by decide)
  refine ⟨fun σ' H' => ∃ (z : Int) (cells' : List Int), σ' = [some (.ref d), some (.int most), some (.int z), none] ∧ Keep d c H H' ∧ H' d = some (.lst [.ref c, .int m, .int (n + 1)]) ∧ H' c = some (.lst (cells'.map V.int)) ∧ cells'.length ≤ 63, ?_, ?_⟩
  · refine ⟨.ref d, rfl, d, _, 0, _, rfl, rfl, .inl (.inl h1d), at0, Nat.zero_le _, fun e ne => ?_⟩
    have s2 : Same (upd H d (.lst [.ref c, .int m, .int (n + 1)])) (upd (upd H d (.lst [.ref c, .int m, .int (n + 1)])) e (.lst [])) := same_upd ne
    have h2d := s2 _ _ h1d
    have h2c := s2 _ _ h1c
    have k2 := k1.trans (Keep.of s2)
    refine ⟨_, _, .lst (.inl (.inl h2c)) (dp_ints cells), .lst (.inl (.inl upd_same)) .nil, shaped_ints cells, shaped_ints [], _, rfl, ?_⟩
    rw [neq_nil]
    cases hcs : cells with
    | nil => exact iteF ⟨m, cells, rfl, k2, h2d, h2c, hlen⟩
    | cons x0 r0 =>
      refine iteT ?_
      have hne : cells ≠ [] := by
        rw [hcs]
        exact List.cons_ne_nil _ _
      have hlast : (cells.map V.int)[(cells.map V.int).length - 1]? = some (.int (cells.getLast hne)) := by
        rw [List.length_map, List.getElem?_map, ← List.getLast?_eq_getElem?, List.getLast?_eq_getLast hne]
        rfl
      refine ⟨.ref d, rfl, d, _, 0, _, rfl, rfl, .inl (.inl h2d), at0, .inl ⟨rfl, _, .inl (.inl h2c)⟩, c, _, _, rfl, rfl, h2c, hlast, ?_⟩
      have hdrop : (cells.map V.int).dropLast = cells.dropLast.map V.int := by rw [List.map_dropLast]
      rw [hdrop]
      have h3d : upd (upd (upd H d (.lst [.ref c, .int m, .int (n + 1)])) e (.lst [])) c (.lst (cells.dropLast.map V.int)) d = some (.lst [.ref c, .int m, .int (n + 1)]) := by
        rw [upd_ne hcd.symm]
        exact h2d
      have h3c : upd (upd (upd H d (.lst [.ref c, .int m, .int (n + 1)])) e (.lst [])) c (.lst (cells.dropLast.map V.int)) c = some (.lst (cells.dropLast.map V.int)) := upd_same
      have k3 : Keep d c H (upd (upd (upd H d (.lst [.ref c, .int m, .int (n + 1)])) e (.lst [])) c (.lst (cells.dropLast.map V.int))) := fun b o n1 n2 e1 => by
        rw [upd_ne n2]
        exact k2 b o n1 n2 e1
      have l3 : cells.dropLast.length + 1 ≤ 63 := by
        rw [List.length_dropLast, hcs, List.length_cons]
        rw [hcs, List.length_cons] at hlen
        omega
      generalize cells.getLast hne = z
      refine ⟨.int z, rfl, _, _, rfl, rfl, ⟨by decide, by decide, by decide⟩, _, _, rfl, rfl, _, rfl, ite2 (fun e5 => ?_) (fun e5 => ?_)⟩
      · refine ⟨.ref d, rfl, d, _, 0, _, rfl, rfl, .inl (.inl h3d), at0, .inl ⟨rfl, _, .inl (.inl h3c)⟩, .int z, rfl, .int most, rfl, z, most, rfl, rfl, wd, c, _, _, rfl, rfl, h3c, ?_, ?_⟩
        · rw [List.length_map]
          exact small1000 (by omega)
        · refine ⟨.int z, rfl, .int most, rfl, z, most, rfl, rfl, hm0, ?_⟩
          refine q _ _ ?_ ?_ (Int.emod_nonneg _ (by omega)) (Int.emod_lt_of_pos _ hm0)
          · intro b o n1 n2 e1
            rw [upd_ne n2]
            exact k3 b o n1 n2 e1
          · refine ⟨cells.dropLast ++ [z / most], m, n + 1, ?_, ?_, ?_, by omega, by omega⟩
            · rw [upd_ne hcd.symm]
              exact h3d
            · rw [upd_same, List.map_append]
              rfl
            · rw [List.length_append, List.length_singleton]
              exact l3
      · exact ⟨z, cells.dropLast, rfl, k3, h3d, h3c, by omega⟩
  · rintro σ' H' ⟨z, cells', rfl, kk, h5d, h5c, hl5⟩
    have hn2 : -(2 ^ 64) < n + 1 ∧ n + 1 < 2 ^ 64 := by omega
    refine ⟨.int z, rfl, z, 2147483629, rfl, rfl, (show (0 : Int) < 2147483629 by decide), .ref d, rfl, d, _, 2, _, rfl, rfl, .inl (.inl h5d), at2, 8609, n + 1, rfl, rfl, .inl ⟨by decide, by decide⟩, .ref d, rfl, d, _, 2, _, rfl, rfl, .inl (.inl h5d), at2, 8609 * (n + 1), n + 1, rfl, rfl, .inr hn2, _, _, rfl, rfl, _, _, rfl, rfl, _, 48271, rfl, rfl, .inr ⟨by decide, by decide⟩, _, 2147483647, rfl, rfl, (show (0 : Int) < 2147483647 by decide), ?_⟩
    have b1 := num1_rng z n
    refine ⟨.int (num1 z n), rfl, .int (num1 z n), rfl, num1 z n, num1 z n, rfl, rfl, .inl b1, .int (num1 z n), rfl, 69621, num1 z n, rfl, rfl, .inr b1, _, _, rfl, rfl, .ref d, rfl, d, _, 2, _, rfl, rfl, .inl (.inl h5d), at2, _, _, rfl, rfl, _, 2147483587, rfl, rfl, (show (0 : Int) < 2147483587 by decide), ?_⟩
    have b2 := num2_rng (num1 z n) n
    refine ⟨.int (num2 (num1 z n) n), rfl, .int (num2 (num1 z n) n), rfl, num2 (num1 z n) n, 5, rfl, rfl, ⟨by decide, by decide⟩, _, _, rfl, rfl, num2 (num1 z n) n, _, rfl, rfl, .inl b2, _, 2147483579, rfl, rfl, (show (0 : Int) < 2147483579 by decide), _, 64, rfl, rfl, ⟨by decide, by decide⟩, .int most, rfl, _, most, rfl, rfl, hm0, ?_⟩
    exact q _ _ kk ⟨cells', m, n + 1, h5d, h5c, hl5, by omega, by omega⟩ (Int.emod_nonneg _ (by omega)) (Int.emod_lt_of_pos _ hm0)
end
theorem Keep.seq {K : PySem.W.Frag} {d c a : Addr} {H H' : Hp} {xs : List V} (s : Keep d c H H') (h : SqL K H a xs) (h1 : a ≠ d) (h2 : a ≠ c) : SqL K H' a xs := by
  rcases h with (h | ⟨o, h⟩) | h
  · exact .inl (.inl (s _ _ h1 h2 h))
  · exact .inl (.inr ⟨o, s _ _ h1 h2 h⟩)
  · exact .inr h
theorem cut63 (ns : List Int) : ∃ ms : List Int, cutV (ns.map V.int) none (some 63) = ms.map V.int ∧ ms.length ≤ 63 := by
  refine ⟨ns.take (min 63 ns.length), ?_, ?_⟩
  · unfold cutV
    rw [HT.sIx_none, show HT.sIx (ns.map V.int).length (ns.map V.int).length (some 63) = min 63 (ns.map V.int).length from HT.sIx_nat _ _ 63, List.drop_zero, List.map_take, List.length_map, Nat.sub_zero]
  · rw [List.length_take]
    omega
theorem small_le {n : Nat} (h : n ≤ 1000) : n ≤ sizeLine := Nat.le_of_lt (small1000 h)
section
variable {P : Program} {w : World} {K : PySem.W.Frag} {mg : Str → Option Value} {base : Heap}
abbrev s_law_deck : Stmt := topS 34
theorem sc_law_deck : FnScope ["_law_script", "_law_cells"] ["_law_script"] (defScope s_law_deck) := ⟨rfl, rfl, rfl, by decide +kernel, rfl, by decide +kernel, by decide +kernel⟩
def sp_deck (K : PySem.W.Frag) : Sp := fun vs H Q _ => ∃ (a : Addr) (ns : List Int), vs = [.ref a] ∧ SqL K H a (ns.map V.int) ∧ ∀ H' d c, Same H H' → H d = none → Deck H' d c 0 → Q (.ref d) H'
theorem ok_deck {f : Addr} {fd : FuncData} {k : Nat} (F : Fun K "_law_deck" "_law_deck" s_law_deck f fd) (mlist : mg "list" = none) (msum : mg "sum" = none) (mlen : mg "len" = none) :
    FnOk P w K mg base CX0 (k + 1) f fd ["_law_script"] (sp_deck K) := by
  have nd := sc_law_deck.nd
  refine F.ok sc_law_deck (fun vs H Q E h => ?_) (fun cdv A outer s H vs Q E hr h => ?_)
  · obtain ⟨a, ns, rfl, _⟩ := h
    rfl
  obtain ⟨a, ns, rfl, hS, q⟩ := h
  obtain ⟨ms, hms, hl⟩ := cut63 ns
  refine ⟨_, (pss_cons (ps_set (i := 1) nd rfl (.inl rfl) (pe_callTy call_list_of (by rfl) mlist boot_list (pa_cons (pe_slice sl_list (pv 0) po_none (po_some pe_int)) pa_nil)))
      (pss_one (ps_ret (pe_lst (pa_cons (pe_revL (pv 1)) (pa_cons (pe_op op_add (pe_op op_mod (pe_callB (cr_sum rfl) (by rfl) msum boot_sum (pa_cons (pv 1) pa_nil)) pe_int) (pe_op op_mul pe_int (pe_callB call_len_seq (by rfl) mlen PySem.boot_len (pa_cons (pv 1) pa_nil)))) (pa_cons pe_int pa_nil))))))), ?_⟩
  refine ⟨.ref a, rfl, 63, rfl, a, _, rfl, hS, fun p np => ?_⟩
  rw [hms]
  have s1 : Same H (upd H p (.lst (ms.map V.int))) := same_upd np
  refine ⟨p, _, rfl, .inl (.inl (.inl upd_same)), fun l nl => ?_⟩
  have s2 := same_upd (o := .lst (ms.map V.int)) nl
  have hl2 : SqL K (upd (upd H p (.lst (ms.map V.int))) l (.lst (ms.map V.int))) l (ms.map V.int) := .inl (.inl upd_same)
  refine ⟨.ref l, rfl, l, _, rfl, hl2, fun c nc => ?_⟩
  have s3 := same_upd (o := .lst (ms.map V.int).reverse) nc
  refine ⟨.ref l, rfl, l, ms, rfl, s3.seq hl2, _, 2147483629, rfl, rfl, (show (0 : Int) < 2147483629 by decide), .ref l, rfl, l, _, rfl, .inl (s3.seq hl2), 69621, _, rfl, rfl, .inl ⟨by decide, by decide⟩, _, _, rfl, rfl, small_le (show 3 ≤ 1000 by decide), fun d nd' => ?_⟩
  refine q _ d c ((s1.trans s2).trans (s3.trans (same_upd nd'))) ?_ ?_
  · exact s1.free (s2.free (s3.free nd'))
  · refine ⟨ms.reverse, _, 0, upd_same, ?_, ?_, Int.le_refl 0, Int.le_refl 0⟩
    · have : c ≠ d := ne_of_none (show upd _ c _ c = _ from upd_same) nd'
      rw [upd_ne this, upd_same, List.map_reverse]
    · rw [List.length_reverse]
      exact hl
end
theorem Deck.new {H : Hp} {d c a : Addr} {N : Int} (D : Deck H d c N) (na : H a = none) : a ≠ d ∧ a ≠ c := by
  obtain ⟨cells, m, n, h1, h2, _⟩ := D
  exact ⟨(ne_of_none h1 na).symm, (ne_of_none h2 na).symm⟩
theorem Keep.free {d c a : Addr} {H H' : Hp} (s : Keep d c H H') (na : H' a = none) (h1 : a ≠ d) (h2 : a ≠ c) : H a = none := by
  cases q : H a with
  | none => rfl
  | some o =>
    rw [s a o h1 h2 q] at na
    cases na
end K7

namespace K7
open PySem PySem.Spec PyProof.Rows L2 GR
abbrev L26 : Str := "abcdefghijklmnopqrstuvwxyz"
def sgn (c : Nat) : Str := ⟨#[c]⟩
theorem l26_len : L26.length = 26 := by decide
theorem l26_at : ∀ k, k < 26 → L26.cps.toList[k]? = some (97 + k) := by decide
theorem l26_occ : ∀ k, k < 26 → Builtin.Str.occurrences L26 (sgn (97 + k)) 0 L26.length 1 = [k] := by decide +kernel
def Low (c : Nat) : Prop := 97 ≤ c ∧ c ≤ 122
/-- the words that are no names -/
def barred : List Str := ["key", "if", "at", "count", "sum", "most", "first", "let", "need", "put", "each", "tell"]
/-- a name -/
def Nm (z : Str) : Prop := 1 ≤ z.cps.toList.length ∧ z.cps.toList.length ≤ 8 ∧ (∀ c, c ∈ z.cps.toList → Low c) ∧ z ∉ barred
theorem nm_lit {z : Str} (h : (decide (1 ≤ z.cps.toList.length) && decide (z.cps.toList.length ≤ 8) && z.cps.toList.all (fun c => decide (97 ≤ c) && decide (c ≤ 122)) && decide (z ∉ barred)) = true) : Nm z := by
  simp only [Bool.and_eq_true, decide_eq_true_eq, List.all_eq_true] at h
  obtain ⟨⟨⟨h1, h2⟩, h3⟩, h4⟩ := h
  exact ⟨h1, h2, fun c hc => h3 c hc, h4⟩
theorem barred_q : ∀ z, z ∈ barred → z.cps.toList.head? ≠ some 113 := by decide
/-- the text of single signs, joined -/
theorem join_signs : ∀ cs : List Nat, (Txt.join Str.empty (cs.map sgn)).cps.toList = cs := by
  intro cs
  have hj : ∀ cs : List Nat, TL.joinL [] (cs.map fun c => [c]) = cs := by
    intro cs
    induction cs with
    | nil => rfl
    | cons a r ih =>
      cases r with
      | nil => rfl
      | cons b r =>
        show [a] ++ ([] ++ TL.joinL [] ((b :: r).map fun c => [c])) = a :: b :: r
        rw [ih]
        rfl
  have := TL.tl_join Str.empty (cs.map sgn)
  rw [List.map_map] at this
  rw [TL.join_eq]
  exact this.trans (hj cs)
section
variable {P : Program} {w : World} {K : PySem.W.Frag} {mg : Str → Option Value} {base : Heap}
abbrev s_law_pick : Stmt := topS 36
theorem sc_law_pick : FnScope ["_law_deck_here", "_law_some"] ["_law_deck_here", "_law_some"] (defScope s_law_pick) := ⟨rfl, rfl, rfl, by decide +kernel, rfl, by decide +kernel, by decide +kernel⟩
/-- a pick from a list, or from the letters -/
def sp_pick (K : PySem.W.Frag) : Sp := fun vs H Q _ =>
  (∃ (d c a : Addr) (N : Int) (xs : List V), vs = [.ref d, .ref a] ∧ Deck H d c N ∧ N < 2 ^ 60 ∧ SqL K H a xs ∧ xs ≠ [] ∧ xs.length ≤ 1000 ∧ a ≠ d ∧ a ≠ c ∧ ∀ H' v, Keep d c H H' → Deck H' d c (N + 1) → v ∈ xs → Q v H') ∨
  (∃ (d c : Addr) (N : Int), vs = [.ref d, .str L26] ∧ Deck H d c N ∧ N < 2 ^ 60 ∧ ∀ H' k, Keep d c H H' → Deck H' d c (N + 1) → k < 26 → Q (.str (sgn (97 + k))) H')
theorem ok_pick {f f_law_draw : Addr} {fd fd_law_draw : FuncData} {k : Nat} (F : Fun K "_law_pick" "_law_pick" s_law_pick f fd) (G_law_draw : FnOk P w K mg base CX0 k f_law_draw fd_law_draw ["_law_deck_here", "_law_most"] sp_draw)
    (g_law_draw : mg "_law_draw" = some (.ref f_law_draw)) (K_law_draw : PySem.W.keepIn K (.ref f_law_draw) = true) (b_law_draw : Binds K fd_law_draw ["_law_deck_here", "_law_most"] []) (mlen : mg "len" = none) :
    FnOk P w K mg base CX0 (k + 1) f fd ["_law_deck_here", "_law_some"] (sp_pick K) := by
  have nd := sc_law_pick.nd
  refine F.ok sc_law_pick (fun vs H Q E h => ?_) (fun cdv A outer s H vs Q E hr h => ?_)
  · rcases h with ⟨d, c, a, N, xs, rfl, _⟩ | ⟨d, c, N, rfl, _⟩ <;> rfl
  refine ⟨_, (pss_one (ps_ret (pe_ix ix_seq (pv 1) (pe_call G_law_draw hr (by rfl) g_law_draw K_law_draw b_law_draw .nil pass0 (pa_cons (pv 0) (pa_cons (pe_callB call_len (by rfl) mlen PySem.boot_len (pa_cons (pv 1) pa_nil)) pa_nil))) (fun _ _ => rfl)))), ?_⟩
  rcases h with ⟨d, c, a, N, xs, rfl, D, hN, hS, hne, hlen, had, hac, q⟩ | ⟨d, c, N, rfl, D, hN, q⟩
  · have hpos : 0 < xs.length := List.length_pos_iff.mpr hne
    refine ⟨.ref a, rfl, .ref d, rfl, .ref a, rfl, .ref a, xs.length, rfl, .inl ⟨xs, hS, rfl⟩, d, c, N, (xs.length : Int), rfl, D, hN, by omega, by omega, fun H' r kp D' r0 r1 => ?_⟩
    obtain ⟨j, rfl⟩ := Int.eq_ofNat_of_zero_le r0
    have hj : j < xs.length := by omega
    exact .inl ⟨a, xs, j, xs[j], rfl, rfl, kp.seq hS had hac, atI_nat (List.getElem?_eq_getElem hj), q H' _ kp D' (List.getElem_mem hj)⟩
  · refine ⟨.str L26, rfl, .ref d, rfl, .str L26, rfl, .str L26, 26, rfl, ⟨by rw [l26_len]; decide, l26_len.symm⟩, d, c, N, 26, rfl, D, hN, by decide, by decide, fun H' r kp D' r0 r1 => ?_⟩
    obtain ⟨j, rfl⟩ := Int.eq_ofNat_of_zero_le r0
    have hj : j < 26 := by omega
    exact .inr (.inr ⟨L26, j, 97 + j, rfl, rfl, by rw [l26_len]; decide, atI_nat (l26_at j hj), q H' j kp D' hj⟩)
end
end K7

namespace K7
open PySem PySem.Spec PyProof.Rows L2 GR
/-- lists of texts of single signs -/
def sg (cs : List Nat) : List V := (cs.map sgn).map V.str
theorem sg_length (cs : List Nat) : (sg cs).length = cs.length := by
  unfold sg
  rw [List.length_map, List.length_map]
theorem sg_snoc (cs : List Nat) (c : Nat) : sg cs ++ [V.str (sgn c)] = sg (cs ++ [c]) := by
  unfold sg
  simp
theorem sg_set (cs : List Nat) (i c : Nat) : (sg cs).set i (V.str (sgn c)) = sg (cs.set i c) := by
  unfold sg
  rw [List.map_set, List.map_set]
theorem sg_get {cs : List Nat} {i c : Nat} (h : cs[i]? = some c) : (sg cs)[i]? = some (V.str (sgn c)) := by
  unfold sg
  rw [List.getElem?_map, List.getElem?_map, h]
  rfl
theorem nm_signs {z : Str} {cs : List Nat} (hz : z.cps.toList = 113 :: cs) (h0 : cs.length ≤ 7) (hl : ∀ c, c ∈ cs → Low c) : Nm z := by
  refine ⟨by rw [hz]; simp, by rw [hz, List.length_cons]; omega, ?_, fun hb => ?_⟩
  · rw [hz]
    intro c hc
    rcases List.mem_cons.mp hc with rfl | hc
    · exact ⟨by decide, by decide⟩
    · exact hl c hc
  · have := barred_q z hb
    rw [hz] at this
    exact this rfl
theorem sgn_length (cs : List Nat) : ((cs.map sgn).map (·.length)).sum = cs.length := by
  induction cs with
  | nil => rfl
  | cons c r ih =>
    rw [List.map_cons, List.map_cons, List.sum_cons, ih, List.length_cons]
    show 1 + r.length = r.length + 1
    omega
section
variable {P : Program} {w : World} {K : PySem.W.Frag} {mg : Str → Option Value} {base : Heap}
abbrev s_law_names : Stmt := topS 37
abbrev N_names : List Str := ["_law_deck_here", "_law_many", "_law_letters", "_law_k", "_law_word", "_law_at", "_law_first", "_law_found"]
theorem sc_law_names : FnScope N_names ["_law_deck_here", "_law_many"] (defScope s_law_names) := ⟨rfl, rfl, rfl, by decide +kernel, rfl, by decide +kernel, by decide +kernel⟩
/-- a new list of names -/
def sp_names : Sp := fun vs H Q _ => ∃ (d c : Addr) (N : Int) (many : Nat), vs = [.ref d, .int (many : Int)] ∧ Deck H d c N ∧ N < 2 ^ 55 ∧ many ≤ 100 ∧
  ∀ H' p (zs : List Str), Keep d c H H' → Deck H' d c (N + 20) → H p = none → H' p = some (.lst (zs.map V.str)) → zs.length = many → (∀ z, z ∈ zs → Nm z) → Q (.ref p) H'
theorem ok_names {f f_law_draw f_law_pick : Addr} {fd fd_law_draw fd_law_pick : FuncData} {k : Nat} (F : Fun K "_law_names" "_law_names" s_law_names f fd) (G_law_draw : FnOk P w K mg base CX0 k f_law_draw fd_law_draw ["_law_deck_here", "_law_most"] sp_draw)
    (g_law_draw : mg "_law_draw" = some (.ref f_law_draw)) (K_law_draw : PySem.W.keepIn K (.ref f_law_draw) = true) (b_law_draw : Binds K fd_law_draw ["_law_deck_here", "_law_most"] [])
    (G_law_pick : FnOk P w K mg base CX0 k f_law_pick fd_law_pick ["_law_deck_here", "_law_some"] (sp_pick K))
    (g_law_pick : mg "_law_pick" = some (.ref f_law_pick)) (K_law_pick : PySem.W.keepIn K (.ref f_law_pick) = true) (b_law_pick : Binds K fd_law_pick ["_law_deck_here", "_law_some"] [])
    (mrange : mg "range" = none) (mlen : mg "len" = none) : FnOk P w K mg base CX0 (k + 1) f fd ["_law_deck_here", "_law_many"] sp_names := by
  have nd := sc_law_names.nd
  refine F.ok sc_law_names (fun vs H Q E h => ?_) (fun cdv A outer s H vs Q E hr h => ?_)
  · obtain ⟨d, c, N, many, rfl, _⟩ := h
    rfl
  obtain ⟨d, c, N, many, rfl, D, hN, hmany, q⟩ := h
  refine ⟨_, (pss_cons (ps_set (i := 2) nd rfl (.inr rfl) pe_str)
      (Evl.pss_cut (ps_set (i := 4) nd rfl (.inl rfl) (pe_op op_cat (pe_lst (pa_cons pe_str pa_nil)) (pe_lc (own := [("_law_k", 3)]) rfl nd (pi_range1 rfl mrange (pa_cons (pe_op op_add pe_int (pe_call G_law_draw hr (by rfl) g_law_draw K_law_draw b_law_draw .nil pass0 (pa_cons (pv 0) (pa_cons pe_int pa_nil)))) pa_nil)) (blkOk_by (N := N_names) (sc := defScope s_law_names) (by decide +kernel)) (fun _ _ _ _ _ => (pg_name (i := 3) nd rfl (Or.inl rfl))) (fun _ _ _ _ _ => pts_nil)
          (te := tCall (sp_pick K) [] E0 (tCons (tVar 0) (tCons (tVar 2) tNil)))
          (fun _ _ _ _ _ => (pe_call G_law_pick hr (by rfl) g_law_pick K_law_pick b_law_pick .nil pass0 (pa_cons (pv 0) (pa_cons (pv 2) pa_nil)))))))
      (pss_cons (ps_set (i := 5) nd rfl (.inl rfl) (pe_op op_add pe_int (pe_call G_law_draw hr (by rfl) g_law_draw K_law_draw b_law_draw .nil pass0 (pa_cons (pv 0) (pa_cons (pe_op op_sub (pe_callB call_len_seq (by rfl) mlen PySem.boot_len (pa_cons (pv 4) pa_nil)) pe_int) pa_nil)))))
      (pss_cons (ps_set (i := 6) nd rfl (.inl rfl) (pe_bm PySem.F.plainAttrs_str PySem.F.slot_str_index PySem.F.type_str_index mt_sindex (pv 2) (pa_cons (pe_ix ix_list (pv 4) (pv 5) (fun _ _ => rfl)) pa_nil)))
      (pss_cons (ps_set (i := 7) nd rfl (.inl rfl) (pe_lst pa_nil))
      (pss_cons (ps_for PassesOwn.never rfl (pi_range1 rfl mrange (pa_cons (pv 1) pa_nil)) (pg_name (i := 3) nd rfl (Or.inl rfl))
      (pss_cons (ps_asg (pe_ix ix_str (pv 2) (pe_op op_mod (pe_op op_add (pv 6) (pv 3)) pe_int) (fun _ _ => rfl)) (pg_sub (pv 4) (pv 5) set_list))
        (pss_one (ps_expr (pe_bm PySem.F.plainAttrs_list PySem.F.slot_list_append PySem.F.type_list_append mt_append (pv 7) (pa_cons (pe_join pe_str (pv 4)) pa_nil))))))
      (pss_one (ps_ret (pv 7))))))))), ?_⟩
  -- word = ['q'] + [..]
  refine ⟨fun σ' H' => ∃ wd cs, σ' = [some (.ref d), some (.int (many : Int)), some (.str L26), none, some (.ref wd), none, none, none] ∧ Keep d c H H' ∧ Deck H' d c (N + 8) ∧ H wd = none ∧ wd ≠ d ∧ wd ≠ c ∧ H' wd = some (.lst (sg (113 :: cs))) ∧ 1 ≤ cs.length ∧ cs.length ≤ 7 ∧ (∀ x, x ∈ cs → Low x), ?_, ?_⟩
  · refine ⟨Nat.le_of_lt (small1000 (show 1 ≤ 1000 by decide)), fun l nl => ?_⟩
    have sl := same_upd (o := .lst [.str "q"]) nl
    have D1 := D.same sl
    have hl := D.new nl
    have hl1 : upd H l (.lst [.str "q"]) l = some (.lst [.str "q"]) := upd_same
    refine ⟨.ref d, rfl, d, c, N, 7, rfl, D1, by omega, by decide, by decide, fun H1 r k1 D2 r0 r1 => ?_⟩
    obtain ⟨n, rfl⟩ := Int.eq_ofNat_of_zero_le r0
    refine ⟨1, (n : Int), rfl, rfl, 1 + (n : Int), rfl, by omega, by omega, fun B nB => ?_⟩
    have hB := D2.new nB
    have nlB : l ≠ B := ne_of_none (k1 _ _ hl.1 hl.2 hl1) nB
    have e1n : (1 + (n : Int)).toNat = n + 1 := by omega
    rw [e1n]
    refine lc_range (n := n + 1) (fun i H' => ∃ cs, cs.length = i ∧ (∀ x, x ∈ cs → Low x) ∧ H' B = some (.lst (sg cs)) ∧ (∀ b o, b ≠ d → b ≠ c → b ≠ B → H1 b = some o → H' b = some o) ∧ Deck H' d c (N + 1 + (i : Int))) ?_ ?_ ?_
    · refine ⟨[], rfl, fun x hx => (nomatch hx), upd_same, fun b o _ _ nb e => by rw [upd_ne nb]; exact e, ?_⟩
      exact (D2.same (same_upd nB)).mono (by omega)
    · rintro i H3 hi ⟨cs, hlen, hlow, hB3, k3, D3⟩
      refine ⟨rfl, yes_then ⟨.ref d, rfl, .str L26, rfl, .inr ⟨d, c, _, rfl, D3, by omega, fun H4 j k4 D4 hj => ?_⟩⟩⟩
      refine ⟨_, k4 _ _ hB.1 hB.2 hB3, ?_, cs ++ [97 + j], ?_, ?_, ?_, ?_, ?_⟩
      · rw [sg_length]
        exact small1000 (by omega)
      · rw [List.length_append, hlen]
        rfl
      · intro x hx
        rcases List.mem_append.mp hx with hx | hx
        · exact hlow x hx
        · rw [List.mem_singleton.mp hx]
          unfold Low
          omega
      · rw [upd_same, sg_snoc]
      · intro b o n1 n2 n3 e
        rw [upd_ne n3]
        exact k4 _ _ n1 n2 (k3 b o n1 n2 n3 e)
      · obtain ⟨cells, m, x, g1, g2, g3, g4, g5⟩ := D4
        refine ⟨cells, m, x, ?_, ?_, g3, g4, by omega⟩
        · rw [upd_ne hB.1.symm]
          exact g1
        · rw [upd_ne hB.2.symm]
          exact g2
    · rintro H3 ⟨cs, hlen, hlow, hB3, k3, D3⟩
      have hl3 := k3 _ _ hl.1 hl.2 nlB (k1 _ _ hl.1 hl.2 hl1)
      refine ⟨l, B, _, _, rfl, rfl, hl3, hB3, ?_, fun wd nwd => ?_⟩
      · rw [sg_length]
        exact small_le (show 1 + cs.length ≤ 1000 by omega)
      have hw := D3.new nwd
      have sw := same_upd (o := .lst ([.str "q"] ++ sg cs)) nwd
      refine ⟨wd, cs, rfl, ?_, (D3.same sw).mono (by omega), ?_, hw.1, hw.2, ?_, by omega, by omega, hlow⟩
      · intro b o n1 n2 e
        refine sw _ _ (k3 b o n1 n2 ?_ (k1 _ _ n1 n2 (sl _ _ e)))
        exact ne_of_none (k1 _ _ n1 n2 (sl _ _ e)) nB
      · cases e : H wd with
        | none => rfl
        | some o =>
          have nb := ne_of_none (k1 _ _ hw.1 hw.2 (sl _ _ e)) nB
          rw [k3 wd o hw.1 hw.2 nb (k1 _ _ hw.1 hw.2 (sl _ _ e))] at nwd
          cases nwd
      · exact upd_same
  rintro σ' H1 ⟨wd, cs, rfl, k1, D1, nwd, hwd, hwc, hw1, c1, c7, hlow⟩
  -- at, first
  refine ⟨.ref d, rfl, .ref wd, rfl, wd, _, rfl, .inl (.inl (.inl hw1)), _, 1, rfl, rfl, d, c, N + 8, ((sg (113 :: cs)).length : Int) - 1, rfl, D1, by omega, ?_, ?_, fun H2 r k2 D2 r0 r1 => ⟨_, _, rfl, rfl, ?_⟩⟩
  · rw [sg_length, List.length_cons]
    omega
  · rw [sg_length, List.length_cons]
    omega
  rw [sg_length, List.length_cons] at r1
  obtain ⟨j, rfl⟩ := Int.eq_ofNat_of_zero_le r0
  have hj : j < cs.length := by omega
  have hw2 := k2 _ _ hwd hwc hw1
  have hcj : (113 :: cs)[j + 1]? = some cs[j] := by
    rw [List.getElem?_cons_succ]
    exact List.getElem?_eq_getElem hj
  have hlj := hlow _ (List.getElem_mem hj)
  obtain ⟨m, hm, hm26⟩ : ∃ m, cs[j] = 97 + m ∧ m < 26 := ⟨cs[j] - 97, by unfold Low at hlj; omega, by unfold Low at hlj; omega⟩
  refine ⟨.str L26, rfl, rfl, .ref wd, rfl, .int (1 + (j : Int)), rfl, wd, _, 1 + (j : Int), .str (sgn (97 + m)), rfl, rfl, .inl (.inl hw2), at_of (j := j + 1) (by omega) (by rw [sg_get hcj, hm]), L26, sgn (97 + m), m, [], rfl, rfl, l26_occ m hm26, ?_⟩
  refine ⟨Nat.zero_le _, fun fo nfo => ?_⟩
  have sf := same_upd (o := .lst []) nfo
  have hfo := D2.new nfo
  have nwf : wd ≠ fo := ne_of_none hw2 nfo
  refine ⟨.int (many : Int), rfl, (many : Int), rfl, by omega, by omega, ?_⟩
  have emany : ((many : Int)).toNat = many := by omega
  rw [emany]
  refine for_range (n := many) (fun i σ H' => ∃ (y3 : Option V) (cs' : List Nat) (zs : List Str), σ = [some (.ref d), some (.int (many : Int)), some (.str L26), y3, some (.ref wd), some (.int (1 + (j : Int))), some (.int (m : Int)), some (.ref fo)] ∧ H' wd = some (.lst (sg (113 :: cs'))) ∧ cs'.length = cs.length ∧ (∀ x, x ∈ cs' → Low x) ∧
      H' fo = some (.lst (zs.map V.str)) ∧ zs.length = i ∧ (∀ z, z ∈ zs → Nm z) ∧ (∀ b o, b ≠ wd → b ≠ fo → H2 b = some o → H' b = some o)) ?_ ?_ ?_
  · refine ⟨none, cs, [], rfl, ?_, rfl, hlow, upd_same, rfl, fun z hz => (nomatch hz), fun b o n1 n2 e => by rw [upd_ne n2]; exact e⟩
    rw [upd_ne nwf]
    exact hw2
  · rintro i σ H3 hi ⟨y3, cs', zs, rfl, hw3, hl3, hlow3, hf3, hz3, hnm3, k3⟩
    have hmod : ∃ t : Nat, ((m : Int) + (0 + (i : Int))) % 26 = (t : Int) ∧ t < 26 := ⟨(m + i) % 26, by omega, Nat.mod_lt _ (by decide)⟩
    obtain ⟨t, ht, ht26⟩ := hmod
    refine ⟨.str L26, rfl, .int (m : Int), rfl, .int (0 + (i : Int)), rfl, _, _, rfl, rfl, _, 26, rfl, rfl, (show (0 : Int) < 26 by decide), L26, (t : Int), 97 + t, rfl, congrArg V.int ht, by rw [l26_len]; decide, atI_nat (l26_at t ht26), ?_⟩
    have hix : ixN (sg (113 :: cs')).length (1 + (j : Int)) = some (j + 1) := by
      unfold ixN
      rw [if_pos (by omega), if_pos (by rw [sg_length, List.length_cons]; omega)]
      exact congrArg some (by omega)
    refine ⟨.ref wd, rfl, .int (1 + (j : Int)), rfl, wd, _, 1 + (j : Int), j + 1, rfl, rfl, hw3, hix, ?_⟩
    have hset : (sg (113 :: cs')).set (j + 1) (.str (sgn (97 + t))) = sg (113 :: cs'.set j (97 + t)) := sg_set _ _ _
    have hw4 : upd H3 wd (.lst ((sg (113 :: cs')).set (j + 1) (.str (sgn (97 + t))))) wd = some (.lst (sg (113 :: cs'.set j (97 + t)))) := by rw [upd_same, hset]
    have hf4 : upd H3 wd (.lst ((sg (113 :: cs')).set (j + 1) (.str (sgn (97 + t))))) fo = some (.lst (zs.map V.str)) := by
      rw [upd_ne nwf.symm]
      exact hf3
    refine ⟨.ref fo, rfl, .inl ⟨rfl, _, .inl (.inl hf4)⟩, ⟨_, rfl⟩, .ref wd, rfl, Str.empty, wd, (113 :: cs'.set j (97 + t)).map sgn, rfl, rfl, .inl (.inl (.inl hw4)), ?_, fo, _, _, rfl, rfl, hf4, ?_, ?_⟩
    · rw [sgn_length, List.length_map, List.length_cons, List.length_set]
      show _ + _ * 0 ≤ _
      omega
    · rw [List.length_map]
      exact small1000 (by omega)
    · refine ⟨_, cs'.set j (97 + t), zs ++ [Txt.join Str.empty ((113 :: cs'.set j (97 + t)).map sgn)], rfl, ?_, by rw [List.length_set]; exact hl3, ?_, ?_, by rw [List.length_append, hz3]; rfl, ?_, ?_⟩
      · rw [upd_ne nwf]
        exact hw4
      · intro x hx
        rcases List.mem_or_eq_of_mem_set hx with hx | rfl
        · exact hlow3 x hx
        · unfold Low
          omega
      · rw [upd_same, List.map_append]
        rfl
      · intro z hz
        rcases List.mem_append.mp hz with hz | hz
        · exact hnm3 z hz
        · rw [List.mem_singleton.mp hz]
          refine nm_signs (cs := cs'.set j (97 + t)) (join_signs _) (by rw [List.length_set]; omega) ?_
          intro x hx
          rcases List.mem_or_eq_of_mem_set hx with hx | rfl
          · exact hlow3 x hx
          · unfold Low
            omega
      · intro b o n1 n2 e
        rw [upd_ne n2, upd_ne n1]
        exact k3 b o n1 n2 e
  · rintro σ H3 ⟨y3, cs', zs, rfl, hw3, hl3, hlow3, hf3, hz3, hnm3, k3⟩
    have nHfo : H fo = none := (k1.trans k2).free nfo hfo.1 hfo.2
    refine ⟨.ref fo, rfl, q H3 fo zs ?_ ?_ nHfo hf3 hz3 hnm3⟩
    · intro b o n1 n2 e
      exact k3 b o (ne_of_none e nwd) (ne_of_none e nHfo) (k2 _ _ n1 n2 (k1 _ _ n1 n2 e))
    · obtain ⟨cells, mm, x, e1, e2, e3, e4, e5⟩ := D2
      exact ⟨cells, mm, x, k3 _ _ hwd.symm hfo.1.symm e1, k3 _ _ hwc.symm hfo.2.symm e2, e3, e4, by omega⟩
end
end K7

namespace K7
open PySem PySem.Spec PyProof.Rows L2 GR
/-- all but the deck and the world is as it was -/
def KeepW (d c u : Addr) (H H' : Hp) : Prop := ∀ b o, b ≠ d → b ≠ c → b ≠ u → H b = some o → H' b = some o
theorem KeepW.refl {d c u : Addr} {H : Hp} : KeepW d c u H H := fun _ _ _ _ _ e => e
theorem KeepW.trans {d c u : Addr} {H H1 H2 : Hp} (a : KeepW d c u H H1) (b : KeepW d c u H1 H2) : KeepW d c u H H2 := fun x o h1 h2 h3 e => b x o h1 h2 h3 (a x o h1 h2 h3 e)
theorem Keep.w {d c : Addr} {H H' : Hp} (s : Keep d c H H') (u : Addr) : KeepW d c u H H' := fun b o h1 h2 _ e => s b o h1 h2 e
theorem KeepW.of {d c u : Addr} {H H' : Hp} (s : Same H H') : KeepW d c u H H' := fun b o _ _ _ e => s b o e
theorem Keep.dct {d c p : Addr} {H H' : Hp} {N : Int} {kvs : List (Key × V)} (s : Keep d c H H') (D : Deck H d c N) (h : H p = some (.dK kvs)) : H' p = some (.dK kvs) := by
  obtain ⟨cells, m, n, h1, h2, _⟩ := D
  exact s p _ (ne_of h h1 (fun z => by cases z)) (ne_of h h2 (fun z => by cases z)) h
def wK (nl : Addr) (L : Int) : List (Key × V) := [(.inr "names", .ref nl), (.inr "left", .int L)]
theorem wK_names (nl : Addr) (L : Int) : valV (wK nl L) (.inr "names") = some (.ref nl) := valV_pos rfl
theorem wK_left (nl : Addr) (L : Int) : valV (wK nl L) (.inr "left") = some (.int L) := (valV_neg (show ¬ ((.inr "names" : Key) = .inr "left") by decide)).trans (valV_pos rfl)
theorem wK_put (nl : Addr) (L M : Int) : putK (wK nl L) (.inr "left") (.int M) = wK nl M := by
  unfold putK wK
  simp
  decide
/-- the world at u: the list of names at nl, how many parts may come -/
structure Wo (H : Hp) (d c u nl : Addr) (zs : List Str) : Prop where
  dct : ∃ L : Int, H u = some (.dK (wK nl L))
  nms : H nl = some (.lst (zs.map V.str))
  nd : nl ≠ d
  nc : nl ≠ c
  len : zs.length = 6
  all : ∀ z, z ∈ zs → Nm z
  inn : ("in" : Str) ∈ zs
theorem Wo.ud {H : Hp} {d c u nl : Addr} {zs : List Str} {N : Int} (W : Wo H d c u nl zs) (D : Deck H d c N) : u ≠ d ∧ u ≠ c := by
  obtain ⟨cells, m, n, h1, h2, _⟩ := D
  obtain ⟨L, hL⟩ := W.dct
  exact ⟨ne_of hL h1 (fun z => by cases z), ne_of hL h2 (fun z => by cases z)⟩
theorem Wo.un {H : Hp} {d c u nl : Addr} {zs : List Str} (W : Wo H d c u nl zs) : nl ≠ u := by
  obtain ⟨L, hL⟩ := W.dct
  exact ne_of W.nms hL (fun z => by cases z)
theorem Wo.keep {H H' : Hp} {d c u nl : Addr} {zs : List Str} {N : Int} (W : Wo H d c u nl zs) (D : Deck H d c N) (k : Keep d c H H') : Wo H' d c u nl zs := by
  obtain ⟨L, hL⟩ := W.dct
  have := W.ud D
  exact ⟨⟨L, k _ _ this.1 this.2 hL⟩, k _ _ W.nd W.nc W.nms, W.nd, W.nc, W.len, W.all, W.inn⟩
theorem in_nm : Nm "in" := nm_lit (by decide)
abbrev sixes : List Str := ["in", "a", "int", "cell", "var", "rows"]
theorem six_nm : ∀ z, z ∈ sixes → Nm z := by
  intro z hz
  simp only [List.mem_cons, List.not_mem_nil, or_false] at hz
  rcases hz with rfl | rfl | rfl | rfl | rfl | rfl <;> exact nm_lit (by decide)
section
variable {P : Program} {w : World} {K : PySem.W.Frag} {mg : Str → Option Value} {base : Heap}
abbrev s_law_world : Stmt := topS 38
theorem sc_law_world : FnScope ["_law_deck_here", "_law_names_here"] ["_law_deck_here"] (defScope s_law_world) := ⟨rfl, rfl, rfl, by decide +kernel, rfl, by decide +kernel, by decide +kernel⟩
def sp_world : Sp := fun vs H Q _ => ∃ (d c : Addr) (N : Int), vs = [.ref d] ∧ Deck H d c N ∧ N < 2 ^ 54 ∧
  ∀ H' u nl zs, Keep d c H H' → Deck H' d c (N + 30) → H u = none → H nl = none → Wo H' d c u nl zs → Q (.ref u) H'
theorem ok_world {f f_law_draw f_law_pick f_law_names : Addr} {fd fd_law_draw fd_law_pick fd_law_names : FuncData} {k : Nat} (F : Fun K "_law_world" "_law_world" s_law_world f fd) (G_law_draw : FnOk P w K mg base CX0 k f_law_draw fd_law_draw ["_law_deck_here", "_law_most"] sp_draw)
    (g_law_draw : mg "_law_draw" = some (.ref f_law_draw)) (K_law_draw : PySem.W.keepIn K (.ref f_law_draw) = true) (b_law_draw : Binds K fd_law_draw ["_law_deck_here", "_law_most"] [])
    (G_law_pick : FnOk P w K mg base CX0 k f_law_pick fd_law_pick ["_law_deck_here", "_law_some"] (sp_pick K))
    (g_law_pick : mg "_law_pick" = some (.ref f_law_pick)) (K_law_pick : PySem.W.keepIn K (.ref f_law_pick) = true) (b_law_pick : Binds K fd_law_pick ["_law_deck_here", "_law_some"] [])
    (G_law_names : FnOk P w K mg base CX0 k f_law_names fd_law_names ["_law_deck_here", "_law_many"] sp_names)
    (g_law_names : mg "_law_names" = some (.ref f_law_names)) (K_law_names : PySem.W.keepIn K (.ref f_law_names) = true) (b_law_names : Binds K fd_law_names ["_law_deck_here", "_law_many"] []) : FnOk P w K mg base CX0 (k + 1) f fd ["_law_deck_here"] sp_world := by
  have nd := sc_law_world.nd
  refine F.ok sc_law_world (fun vs H Q E h => ?_) (fun cdv A outer s H vs Q E hr h => ?_)
  · obtain ⟨d, c, N, rfl, _⟩ := h
    rfl
  obtain ⟨d, c, N, rfl, D, hN, q⟩ := h
  refine ⟨_, (pss_cons (ps_set (i := 1) nd rfl (.inl rfl) (pe_call G_law_names hr (by rfl) g_law_names K_law_names b_law_names .nil pass0 (pa_cons (pv 0) (pa_cons pe_int pa_nil))))
      (pss_cons (ps_asg (pe_call G_law_pick hr (by rfl) g_law_pick K_law_pick b_law_pick .nil pass0 (pa_cons (pv 0) (pa_cons (pe_lst (pa_cons pe_str (pa_cons pe_str (pa_cons pe_str (pa_cons pe_str (pa_cons pe_str (pa_cons pe_str pa_nil))))))) pa_nil))) (pg_sub (pv 1) (pe_call G_law_draw hr (by rfl) g_law_draw K_law_draw b_law_draw .nil pass0 (pa_cons (pv 0) (pa_cons pe_int pa_nil))) set_list))
      (pss_one (ps_ret (pe_disp (pps_cons pe_str (pe_op op_cat (pv 1) (pe_lst (pa_cons pe_str pa_nil))) (pps_cons pe_str pe_int pps_nil)) (by decide) rfl (by simp) (by decide)))))), ?_⟩
  refine ⟨.ref d, rfl, d, c, N, 5, rfl, D, by omega, by decide, fun H1 p zs k1 D1 np hp hlen hnm => ?_⟩
  have hpn : p ≠ d ∧ p ≠ c := by
    obtain ⟨cells, m, n, h1, h2, _⟩ := D
    exact ⟨(ne_of_none h1 np).symm, (ne_of_none h2 np).symm⟩
  refine ⟨.ref d, rfl, small_le (show 6 ≤ 1000 by decide), fun l nl => ?_⟩
  have sl := same_upd (o := .lst [.str "in", .str "a", .str "int", .str "cell", .str "var", .str "rows"]) nl
  have hl := D1.new nl
  have hl1 : SqL K (upd H1 l (.lst [.str "in", .str "a", .str "int", .str "cell", .str "var", .str "rows"])) l (sixes.map V.str) := .inl (.inl upd_same)
  refine .inl ⟨d, c, l, N + 20, _, rfl, D1.same sl, by omega, hl1, List.cons_ne_nil _ _, by decide, hl.1, hl.2, fun H2 v k2 D2 hv => ?_⟩
  obtain ⟨z, hz, rfl⟩ := List.mem_map.mp hv
  refine ⟨.ref p, rfl, .ref d, rfl, d, c, N + 20 + 1, 5, rfl, D2, by omega, by decide, by decide, fun H3 r k3 D3 r0 r1 => ?_⟩
  obtain ⟨j, rfl⟩ := Int.eq_ofNat_of_zero_le r0
  have hj : j < 5 := by omega
  have hp3 := k3 _ _ hpn.1 hpn.2 (k2 _ _ hpn.1 hpn.2 (sl _ _ hp))
  refine ⟨p, _, (j : Int), j, rfl, rfl, hp3, ?_, ?_⟩
  · unfold ixN
    rw [if_pos (by omega), List.length_map, hlen, if_pos (by omega)]
    exact congrArg some (by omega)
  rw [← List.map_set]
  have k03 : Keep d c H H3 := ((k1.trans (Keep.of sl)).trans k2).trans k3
  have k4 : Keep d c H (upd H3 p (.lst ((zs.set j z).map V.str))) := fun b o n1 n2 e => by
    rw [upd_ne (ne_of_none e np)]
    exact k03 b o n1 n2 e
  have D4 : Deck (upd H3 p (.lst ((zs.set j z).map V.str))) d c (N + 30) := by
    obtain ⟨cells, mm, x, e1, e2, e3, e4, e5⟩ := D3
    refine ⟨cells, mm, x, ?_, ?_, e3, e4, by omega⟩
    · rw [upd_ne hpn.1.symm]
      exact e1
    · rw [upd_ne hpn.2.symm]
      exact e2
  have hp4 : upd H3 p (.lst ((zs.set j z).map V.str)) p = some (.lst ((zs.set j z).map V.str)) := upd_same
  revert k4 D4 hp4
  generalize upd H3 p (.lst ((zs.set j z).map V.str)) = H4
  intro k4 D4 hp4
  intro u nu
  have su := same_upd (o := .dK []) nu
  have hu := D4.new nu
  refine ⟨.ref p, rfl, small_le (show 1 ≤ 1000 by decide), fun l2 nl2 => ?_⟩
  have s2 := same_upd (o := .lst [.str "in"]) nl2
  refine ⟨p, l2, _, _, rfl, rfl, s2 _ _ (su _ _ hp4), upd_same, ?_, fun x nx => ?_⟩
  · rw [List.length_map, List.length_set, hlen]
    exact small_le (show 6 ≤ 1000 by decide)
  have s3 := same_upd (o := .lst ((zs.set j z).map V.str ++ [.str "in"])) nx
  have u3 := s3 _ _ (s2 _ _ (show upd H4 u (.dK []) u = _ from upd_same))
  have hx := D4.new (su.free (s2.free nx))
  have n3 : H u = none := k4.free nu hu.1 hu.2
  have nx3 : H x = none := k4.free (su.free (s2.free nx)) hx.1 hx.2
  have hxu : x ≠ u := (ne_of_none (s2 _ _ (show upd H4 u (.dK []) u = _ from upd_same)) nx).symm
  refine ⟨u3, wK x 30, rfl, (show 2 ≤ 15 by decide), q _ u x (zs.set j z ++ [("in" : Str)]) ?_ ?_ n3 nx3 ?_⟩
  · intro b o n1 n2 e
    rw [upd_ne (ne_of_none e n3)]
    exact s3 _ _ (s2 _ _ (su _ _ (k4 _ _ n1 n2 e)))
  · obtain ⟨cells, mm, y, e1, e2, e3, e4, e5⟩ := D4
    refine ⟨cells, mm, y, ?_, ?_, e3, e4, e5⟩
    · rw [upd_ne hu.1.symm]
      exact s3 _ _ (s2 _ _ (su _ _ e1))
    · rw [upd_ne hu.2.symm]
      exact s3 _ _ (s2 _ _ (su _ _ e2))
  · refine ⟨⟨30, upd_same⟩, ?_, hx.1, hx.2, ?_, ?_, ?_⟩
    · rw [upd_ne hxu, List.map_append]
      exact upd_same
    · rw [List.length_append, List.length_set, hlen]
      rfl
    · intro y hy
      rcases List.mem_append.mp hy with hy | hy
      · rcases List.mem_or_eq_of_mem_set hy with hy | rfl
        · exact hnm y hy
        · exact six_nm _ hz
      · rw [List.mem_singleton.mp hy]
        exact in_nm
    · exact List.mem_append_right _ (List.mem_singleton.mpr rfl)
end
end K7

namespace K7
open PySem PySem.Spec PyProof.Rows L2 GR
abbrev aggs : List (Str × Nat) := [("count", 1), ("sum", 2), ("most", 3), ("first", 2)]
/-- the test of a plain aggregate -/
def rowX (t : Str) : PyData := .tuple [.str "cell", .str t, .tuple [.str "key"], .str "in"]
abbrev opws : List Str := ["+", "-", "*", "<", "=", "at"]
/-- one that contains none -/
inductive Leaf (zs : List Str) : PyData → Prop
  | int (i : Int) : -(10 ^ 18) ≤ i → i ≤ 10 ^ 18 → Leaf zs (.tuple [.str "int", .int i])
  | key : Leaf zs (.tuple [.str "key"])
  | var (z : Str) : z ∈ zs → Leaf zs (.tuple [.str "var", .str z])
/-- an expression of depth n at most; its names are among zs -/
inductive Ex (zs : List Str) : Nat → PyData → Prop
  | leaf (n : Nat) (x : PyData) : Leaf zs x → Ex zs (n + 1) x
  | cell (n : Nat) (t v : Str) (x : PyData) : t ∈ zs → v ∈ zs → Ex zs n x → Ex zs (n + 1) (.tuple [.str "cell", .str t, x, .str v])
  | op (n : Nat) (o : Str) (x y : PyData) : o ∈ opws → Ex zs n x → Ex zs n y → Ex zs (n + 1) (.tuple [.str o, x, y])
  | iff (n : Nat) (x y z : PyData) : Ex zs n x → Ex zs n y → Ex zs n z → Ex zs (n + 1) (.tuple [.str "if", x, y, z])
  | agg (n : Nat) (o t : Str) (ys : List PyData) : 2 ≤ n → (o, ys.length) ∈ aggs → t ∈ zs → (∀ y, y ∈ ys → Ex zs n y) → Ex zs (n + 1) (.tuple (.str o :: .str t :: .tuple [] :: rowX t :: ys))
theorem Ex.mono {zs : List Str} : ∀ {n m : Nat} {x : PyData}, Ex zs n x → n ≤ m → Ex zs m x := by
  intro n m x h
  induction h generalizing m with
  | leaf n x h =>
    intro hm
    obtain ⟨k, rfl⟩ : ∃ k, m = k + 1 := ⟨m - 1, by omega⟩
    exact .leaf k x h
  | cell n t v x h1 h2 h3 ih =>
    intro hm
    obtain ⟨k, rfl⟩ : ∃ k, m = k + 1 := ⟨m - 1, by omega⟩
    exact .cell k t v x h1 h2 (ih (by omega))
  | op n o x y h1 h2 h3 ih1 ih2 =>
    intro hm
    obtain ⟨k, rfl⟩ : ∃ k, m = k + 1 := ⟨m - 1, by omega⟩
    exact .op k o x y h1 (ih1 (by omega)) (ih2 (by omega))
  | iff n x y z h1 h2 h3 ih1 ih2 ih3 =>
    intro hm
    obtain ⟨k, rfl⟩ : ∃ k, m = k + 1 := ⟨m - 1, by omega⟩
    exact .iff k x y z (ih1 (by omega)) (ih2 (by omega)) (ih3 (by omega))
  | agg n o t ys h0 h1 h2 h3 ih =>
    intro hm
    obtain ⟨k, rfl⟩ : ∃ k, m = k + 1 := ⟨m - 1, by omega⟩
    exact .agg k o t ys (by omega) h1 h2 (fun y hy => ih y hy (by omega))
/-! ### data of tuples, texts and ints -/
mutual
/-- no lists in it -/
def flatD : PyData → Bool
  | .tuple ds => flatDs ds
  | .int _ => true
  | .str _ => true
  | .bool _ => true
  | .none => true
  | _ => false
def flatDs : List PyData → Bool
  | [] => true
  | d :: ds => flatD d && flatDs ds
end
theorem flatDs_of : ∀ {ds : List PyData}, (∀ d, d ∈ ds → flatD d = true) → flatDs ds = true
  | [], _ => by rw [flatDs]
  | d :: ds, h => by
    rw [flatDs, h d List.mem_cons_self, flatDs_of fun x hx => h x (List.mem_cons_of_mem _ hx)]
    rfl
theorem Ex.flat {zs : List Str} : ∀ {n : Nat} {x : PyData}, Ex zs n x → flatD x = true := by
  intro n x h
  induction h with
  | leaf n x h => cases h <;> simp only [flatD, flatDs, Bool.and_self]
  | cell n t v x h1 h2 h3 ih => simp only [flatD, flatDs, ih, Bool.and_self]
  | op n o x y h1 h2 h3 ih1 ih2 => simp only [flatD, flatDs, ih1, ih2, Bool.and_self]
  | iff n x y z h1 h2 h3 ih1 ih2 ih3 => simp only [flatD, flatDs, ih1, ih2, ih3, Bool.and_self]
  | agg n o t ys h0 h1 h2 h3 ih =>
    have e : flatD (rowX t) = true := rfl
    simp only [flatD, flatDs, flatDs_of ih, e, Bool.and_self]
/-- the tuples stay -/
def KeepT (H H' : Hp) : Prop := (∀ b xs, H b = some (.tup xs) → H' b = some (.tup xs)) ∧ ∀ b o xs, H b = some (.frz o (.tup xs)) → H' b = some (.frz o (.tup xs))
theorem KeepT.of {H H' : Hp} (s : Same H H') : KeepT H H' := ⟨fun b xs e => s b _ e, fun b o xs e => s b _ e⟩
theorem KeepT.refl {H : Hp} : KeepT H H := ⟨fun _ _ e => e, fun _ _ _ e => e⟩
theorem KeepT.trans {H H1 H2 : Hp} (a : KeepT H H1) (b : KeepT H1 H2) : KeepT H H2 := ⟨fun x xs e => b.1 x xs (a.1 x xs e), fun x o xs e => b.2 x o xs (a.2 x o xs e)⟩
theorem KeepT.seqt {K : PySem.W.Frag} {H H' : Hp} (s : KeepT H H') {a : Addr} {xs : List V} (h : SqT K H a xs) : SqT K H' a xs := by
  rcases h with (h | ⟨o, h⟩) | h
  · exact .inl (.inl (s.1 _ _ h))
  · exact .inl (.inr ⟨o, s.2 _ _ _ h⟩)
  · exact .inr h
theorem KeepT.upd {H : Hp} {a : Addr} {o : HO} (ha : ∀ xs, H a ≠ some (.tup xs)) (hb : ∀ u xs, H a ≠ some (.frz u (.tup xs))) : KeepT H (L2.upd H a o) := by
  refine ⟨fun b xs e => ?_, fun b u xs e => ?_⟩
  · have : b ≠ a := by
      rintro rfl
      exact ha xs e
    rw [upd_ne this]
    exact e
  · have : b ≠ a := by
      rintro rfl
      exact hb u xs e
    rw [upd_ne this]
    exact e
theorem KeepT.lst {H : Hp} {a : Addr} {ys : List V} {o : HO} (h : H a = some (.lst ys)) : KeepT H (L2.upd H a o) := KeepT.upd (fun xs e => by rw [h] at e; cases e) (fun u xs e => by rw [h] at e; cases e)
theorem KeepT.dk {H : Hp} {a : Addr} {ys : List (Key × V)} {o : HO} (h : H a = some (.dK ys)) : KeepT H (L2.upd H a o) := KeepT.upd (fun xs e => by rw [h] at e; cases e) (fun u xs e => by rw [h] at e; cases e)
theorem KeepT.non {H : Hp} {a : Addr} {o : HO} (h : H a = none) : KeepT H (L2.upd H a o) := KeepT.of (same_upd h)
/-- what keeps all but the deck and the world keeps the tuples -/
theorem KeepW.t {H H' : Hp} {d c u nl : Addr} {zs : List Str} {N : Int} (k : KeepW d c u H H') (D : Deck H d c N) (W : Wo H d c u nl zs) : KeepT H H' := by
  obtain ⟨cells, m, n, h1, h2, _⟩ := D
  obtain ⟨L, hL⟩ := W.dct
  exact ⟨fun b xs e => k _ _ (ne_of e h1 (fun z => by cases z)) (ne_of e h2 (fun z => by cases z)) (ne_of e hL (fun z => by cases z)) e,
    fun b o xs e => k _ _ (ne_of e h1 (fun z => by cases z)) (ne_of e h2 (fun z => by cases z)) (ne_of e hL (fun z => by cases z)) e⟩
theorem Keep.t {H H' : Hp} {d c : Addr} {N : Int} (k : Keep d c H H') (D : Deck H d c N) : KeepT H H' := by
  obtain ⟨cells, m, n, h1, h2, _⟩ := D
  exact ⟨fun b xs e => k _ _ (ne_of e h1 (fun z => by cases z)) (ne_of e h2 (fun z => by cases z)) e,
    fun b o xs e => k _ _ (ne_of e h1 (fun z => by cases z)) (ne_of e h2 (fun z => by cases z)) e⟩
mutual
theorem dp_keep {K : PySem.W.Frag} {H H' : Hp} (s : KeepT H H') : ∀ (d : PyData) (v : V), flatD d = true → Dp K H v d → Dp K H' v d
  | .none, _, _, h => by
    cases h
    exact .non
  | .bool b, _, _, h => by
    cases h
    exact .bl b
  | .int i, _, _, h => by
    cases h
    exact .int i
  | .str z, _, _, h => by
    cases h
    exact .str z
  | .tuple ds, _, hf, h => by
    cases h with
    | tup h1 h2 => exact .tup (s.seqt h1) (dp_keepAll s ds _ (by rw [flatD] at hf; exact hf) h2)
  | .list ds, _, hf, h => by simp only [flatD, Bool.false_eq_true] at hf
  | .dict ds, _, hf, h => by cases h
theorem dp_keepAll {K : PySem.W.Frag} {H H' : Hp} (s : KeepT H H') : ∀ (ds : List PyData) (vs : List V), flatDs ds = true → DpAll K H vs ds → DpAll K H' vs ds
  | [], _, _, h => by
    cases h
    exact .nil
  | d :: ds, _, hf, h => by
    rw [flatDs, Bool.and_eq_true] at hf
    cases h with
    | cons h1 h2 => exact .cons (dp_keep s d _ hf.1 h1) (dp_keepAll s ds _ hf.2 h2)
end
end K7

namespace K7
open PySem PySem.Spec PyProof.Rows L2 GR
theorem noSl_str {z : Str} {pos : Pos} {k} : NoSl (.Constant (.str z) k pos) := fun _ _ => rfl
theorem dp_two {K : PySem.W.Frag} {H : Hp} {p : Addr} {a : Str} {v : V} {x : PyData} (h : Dp K H v x) (np : H p = none) : Dp K (upd H p (.tup [.str a, v])) (.ref p) (.tuple [.str a, x]) ∨ flatD x = false := by
  cases hf : flatD x with
  | false => exact .inr rfl
  | true => exact .inl (.tup (.inl (.inl upd_same)) (.cons (.str a) (.cons (dp_keep (KeepT.non np) x v hf h) .nil)))
section
variable {P : Program} {w : World} {K : PySem.W.Frag} {mg : Str → Option Value} {base : Heap}
abbrev s_law_leaf : Stmt := topS 39
theorem sc_law_leaf : FnScope ["_law_deck_here", "_law_world_here", "_law_way", "_law_some"] ["_law_deck_here", "_law_world_here"] (defScope s_law_leaf) := ⟨rfl, rfl, rfl, by decide +kernel, rfl, by decide +kernel, by decide +kernel⟩
def sp_leaf (K : PySem.W.Frag) : Sp := fun vs H Q _ => ∃ (d c u nl : Addr) (N : Int) (zs : List Str), vs = [.ref d, .ref u] ∧ Deck H d c N ∧ N < 2 ^ 59 ∧ Wo H d c u nl zs ∧
  ∀ H' v x, Keep d c H H' → Deck H' d c (N + 6) → Leaf zs x → Dp K H' v x → Q v H'
theorem ok_leaf {f f_law_draw f_law_pick : Addr} {fd fd_law_draw fd_law_pick : FuncData} {k : Nat} (F : Fun K "_law_leaf" "_law_leaf" s_law_leaf f fd) (G_law_draw : FnOk P w K mg base CX0 k f_law_draw fd_law_draw ["_law_deck_here", "_law_most"] sp_draw)
    (g_law_draw : mg "_law_draw" = some (.ref f_law_draw)) (K_law_draw : PySem.W.keepIn K (.ref f_law_draw) = true) (b_law_draw : Binds K fd_law_draw ["_law_deck_here", "_law_most"] [])
    (G_law_pick : FnOk P w K mg base CX0 k f_law_pick fd_law_pick ["_law_deck_here", "_law_some"] (sp_pick K))
    (g_law_pick : mg "_law_pick" = some (.ref f_law_pick)) (K_law_pick : PySem.W.keepIn K (.ref f_law_pick) = true) (b_law_pick : Binds K fd_law_pick ["_law_deck_here", "_law_some"] []) :
    FnOk P w K mg base CX0 (k + 1) f fd ["_law_deck_here", "_law_world_here"] (sp_leaf K) := by
  have nd := sc_law_leaf.nd
  refine F.ok sc_law_leaf (fun vs H Q E h => ?_) (fun cdv A outer s H vs Q E hr h => ?_)
  · obtain ⟨d, c, u, nl, N, zs, rfl, _⟩ := h
    rfl
  obtain ⟨d, c, u, nl, N, zs, rfl, D, hN, W, q⟩ := h
  have hu1 : (A.deeper (envOfC "_law_leaf" (defScope s_law_leaf) s.heap.objs.size f cdv)).units + 1 < cLine := by
    have := hr.units
    omega
  refine ⟨_, (pss_cons (ps_set (i := 2) nd rfl (.inl rfl) (pe_call G_law_draw hr (by rfl) g_law_draw K_law_draw b_law_draw .nil pass0 (pa_cons (pv 0) (pa_cons pe_int pa_nil))))
      (pss_cons (ps_if (pt_cmpR op_lt (pv 2) pe_int (nomark _))
      (pss_cons (ps_set (i := 3) nd rfl (.inl rfl) (pe_lst (pa_cons (pe_op op_sub (pe_call G_law_draw hr (by rfl) g_law_draw K_law_draw b_law_draw .nil pass0 (pa_cons (pv 0) (pa_cons pe_int pa_nil))) pe_int) (pa_cons pe_int (pa_cons (pe_op op_pow pe_int pe_int) (pa_cons (pe_op op_sub pe_int (pe_op op_pow pe_int pe_int)) (pa_cons (pe_op op_mul (pe_call G_law_draw hr (by rfl) g_law_draw K_law_draw b_law_draw .nil pass0 (pa_cons (pv 0) (pa_cons (pe_op op_pow pe_int pe_int) pa_nil))) (pe_op op_pow pe_int pe_int)) pa_nil)))))))
        (pss_one (ps_ret (pe_tup (pa_cons pe_str (pa_cons (pe_call G_law_pick hr (by rfl) g_law_pick K_law_pick b_law_pick .nil pass0 (pa_cons (pv 0) (pa_cons (pv 3) pa_nil))) pa_nil))))))
      pss_nil)
      (pss_one (ps_ret (pe_ifExp (pt_cmpR op_eq (pv 2) pe_int (nomark _)) (pe_tup (pa_cons pe_str pa_nil)) (pe_tup (pa_cons pe_str (pa_cons (pe_call G_law_pick hr (by rfl) g_law_pick K_law_pick b_law_pick .nil pass0 (pa_cons (pv 0) (pa_cons (pe_dget hu1 (pv 1) pe_str noSl_str) pa_nil))) pa_nil)))))))), ?_⟩
  -- a tuple of a word and an int, of two texts
  have done : ∀ (H1 : Hp) (M : Int) (a : Str) (v : V) (x : PyData), Keep d c H H1 → Deck H1 d c M → M ≤ N + 6 → Leaf zs (.tuple [.str a, x]) → Dp K H1 v x → flatD x = true → 2 ≤ sizeLine ∧ ∀ p, H1 p = none → Q (.ref p) (upd H1 p (.tup [.str a, v])) := by
    intro H1 M a v x k1 D1 hM hx hv hf
    refine ⟨le2, fun p np => ?_⟩
    have s := same_upd (o := .tup [.str a, v]) np
    refine q _ _ _ (k1.trans (Keep.of s)) ((D1.same s).mono hM) hx ?_
    rcases dp_two (a := a) hv np with h | h
    · exact h
    · rw [hf] at h
      cases h
  refine ⟨.ref d, rfl, d, c, N, 5, rfl, D, by omega, by decide, by decide, fun H1 way k1 D1 w0 w1 => ?_⟩
  refine ⟨.int way, rfl, _, _, rfl, rfl, _, rfl, ite2 (fun e1 => ?_) (fun e1 => ?_)⟩
  · refine ⟨.ref d, rfl, d, c, N + 1, 12, rfl, D1, by omega, by decide, by decide, fun H2 r2 k2 D2 r20 r21 => ?_⟩
    refine ⟨_, _, rfl, rfl, _, _, rfl, rfl, ⟨by decide, by decide, by decide⟩, _, _, rfl, rfl, ⟨by decide, by decide, by decide⟩, _, _, rfl, rfl, .ref d, rfl, _, _, rfl, rfl, ⟨by decide, by decide, by decide⟩, d, c, N + 1 + 1, 10 ^ 9, rfl, D2, by omega, by decide, by decide, fun H3 r3 k3 D3 r30 r31 => ?_⟩
    refine ⟨_, _, rfl, rfl, ⟨by decide, by decide, by decide⟩, r3, 10 ^ 9, rfl, rfl, .inr ⟨by decide, by decide⟩, small_le (show 5 ≤ 1000 by decide), fun l nl => ?_⟩
    have sl := same_upd (o := .lst [.int (r2 - 4), .int 0, .int (10 ^ 18), .int (0 - 10 ^ 18), .int (r3 * 10 ^ 9)]) nl
    have hl := D3.new nl
    have kk := ((k1.trans k2).trans k3).trans (Keep.of sl)
    have D4 := D3.same sl
    have hl1 : SqL K (upd H3 l (.lst [.int (r2 - 4), .int 0, .int (10 ^ 18), .int (0 - 10 ^ 18), .int (r3 * 10 ^ 9)])) l [.int (r2 - 4), .int 0, .int (10 ^ 18), .int (0 - 10 ^ 18), .int (r3 * 10 ^ 9)] := .inl (.inl upd_same)
    refine ⟨.ref d, rfl, .ref l, rfl, .inl ⟨d, c, l, N + 1 + 1 + 1, _, rfl, D4, by omega, hl1, List.cons_ne_nil _ _, (show 5 ≤ 1000 by decide), hl.1, hl.2, fun H5 v k5 D5 hv => ?_⟩⟩
    have hi : ∃ i : Int, v = .int i ∧ -(10 ^ 18) ≤ i ∧ i ≤ 10 ^ 18 := by
      simp only [List.mem_cons, List.not_mem_nil, or_false] at hv
      rcases hv with rfl | rfl | rfl | rfl | rfl
      · exact ⟨_, rfl, by omega, by omega⟩
      · exact ⟨_, rfl, by omega, by omega⟩
      · exact ⟨_, rfl, by omega, by omega⟩
      · exact ⟨_, rfl, by omega, by omega⟩
      · exact ⟨_, rfl, by omega, by omega⟩
    obtain ⟨i, rfl, i0, i1⟩ := hi
    exact done H5 _ "int" _ _ (kk.trans k5) D5 (by omega) (.int i i0 i1) (.int i) rfl
  · refine ⟨.int way, rfl, rfl, _, rfl, ite2 (fun e3 => ?_) (fun e3 => ?_)⟩
    · refine ⟨Nat.le_trans (by decide) le2, fun p np => ?_⟩
      have s := same_upd (o := .tup [.str "key"]) np
      exact q _ _ _ (k1.trans (Keep.of s)) ((D1.same s).mono (by omega)) .key (.tup (.inl (.inl upd_same)) (.cons (.str "key") .nil))
    · have W1 := W.keep D k1
      obtain ⟨L, hL⟩ := W1.dct
      refine ⟨.ref d, rfl, .ref u, rfl, u, .ref nl, rfl, ?_, ?_⟩
      · rw [← wK_names nl L]
        exact DGet.k (k := .inr "names") hL
      · refine .inl ⟨d, c, nl, N + 1, _, rfl, D1, by omega, .inl (.inl W1.nms), ?_, ?_, W1.nd, W1.nc, fun H5 v k5 D5 hv => ?_⟩
        · intro e
          have := congrArg List.length e
          rw [List.length_map, W1.len] at this
          cases this
        · rw [List.length_map, W1.len]
          decide
        · obtain ⟨z, hz, rfl⟩ := List.mem_map.mp hv
          exact done H5 _ "var" _ _ (k1.trans k5) D5 (by omega) (.var z hz) (.str z) rfl
end
end K7

namespace K7
open PySem PySem.Spec PyProof.Rows L2 GR
/-- the draws of a term of depth n, at most -/
def dr : Nat → Int
  | 0 => 10
  | n + 1 => 20 + 6 * dr n
theorem dr_pos : ∀ n, 10 ≤ dr n
  | 0 => by simp only [dr]; omega
  | n + 1 => by
    have := dr_pos n
    simp only [dr]
    omega
theorem Wo.upd {H : Hp} {d c u nl a : Addr} {zs : List Str} {o : HO} (W : Wo H d c u nl zs) (h1 : a ≠ u) (h2 : a ≠ nl) : Wo (L2.upd H a o) d c u nl zs := by
  obtain ⟨L, hL⟩ := W.dct
  refine ⟨⟨L, ?_⟩, ?_, W.nd, W.nc, W.len, W.all, W.inn⟩
  · rw [upd_ne h1.symm]
    exact hL
  · rw [upd_ne h2.symm]
    exact W.nms
theorem Wo.new {H : Hp} {d c u nl a : Addr} {zs : List Str} (W : Wo H d c u nl zs) (na : H a = none) : a ≠ u ∧ a ≠ nl := by
  obtain ⟨L, hL⟩ := W.dct
  exact ⟨(ne_of_none hL na).symm, (ne_of_none W.nms na).symm⟩
theorem Wo.same {H H' : Hp} {d c u nl : Addr} {zs : List Str} (W : Wo H d c u nl zs) (s : Same H H') : Wo H' d c u nl zs := by
  obtain ⟨L, hL⟩ := W.dct
  exact ⟨⟨L, s _ _ hL⟩, s _ _ W.nms, W.nd, W.nc, W.len, W.all, W.inn⟩
theorem Deck.upd {H : Hp} {d c a : Addr} {N : Int} {o : HO} (D : Deck H d c N) (h1 : a ≠ d) (h2 : a ≠ c) : Deck (L2.upd H a o) d c N := by
  obtain ⟨cells, m, n, g1, g2, g3⟩ := D
  refine ⟨cells, m, n, ?_, ?_, g3⟩
  · rw [upd_ne h1.symm]
    exact g1
  · rw [upd_ne h2.symm]
    exact g2
theorem dpAll_len {K : PySem.W.Frag} {H : Hp} : ∀ {vs : List V} {ds : List PyData}, DpAll K H vs ds → vs.length = ds.length
  | [], _, h => by
    cases h
    rfl
  | v :: vs, _, h => by
    cases h with
    | cons _ h2 => rw [List.length_cons, List.length_cons, dpAll_len h2]
theorem dpAll_append {K : PySem.W.Frag} {H : Hp} : ∀ {vs us : List V} {ds es : List PyData}, DpAll K H vs ds → DpAll K H us es → DpAll K H (vs ++ us) (ds ++ es)
  | [], _, _, _, h, g => by
    cases h
    exact g
  | v :: vs, _, _, _, h, g => by
    cases h with
    | cons h1 h2 => exact .cons h1 (dpAll_append h2 g)
/-- terms are being made into the list at b -/
def TInv (K : PySem.W.Frag) (n : Nat) (d c u nl : Addr) (zs : List Str) (H1 : Hp) (b : Addr) (N : Int) (i : Nat) (H : Hp) : Prop :=
  ∃ vs ds, vs.length = i ∧ H b = some (.lst vs) ∧ (∀ a o, a ≠ d → a ≠ c → a ≠ u → a ≠ b → H1 a = some o → H a = some o) ∧ Deck H d c (N + (i : Int) * dr n) ∧ Wo H d c u nl zs ∧ DpAll K H vs ds ∧ ∀ x, x ∈ ds → Ex zs (n + 2) x
/-- any expression -/
def sp_term (K : PySem.W.Frag) (n : Nat) : Sp := fun vs H Q _ => ∃ (d c u nl : Addr) (N deep ins : Int) (zs : List Str), vs = [.ref d, .ref u, .int deep, .int ins] ∧ Deck H d c N ∧ N + dr n < 2 ^ 58 ∧ Wo H d c u nl zs ∧ deep ≤ (n : Int) ∧
  ∀ H' v x, KeepW d c u H H' → Deck H' d c (N + dr n) → Wo H' d c u nl zs → Ex zs (n + 2) x → Dp K H' v x → Q v H'
theorem TInv.start {K : PySem.W.Frag} {n : Nat} {d c u nl : Addr} {zs : List Str} {H1 : Hp} {b : Addr} {N : Int} (D : Deck H1 d c N) (W : Wo H1 d c u nl zs) (nb : H1 b = none) : TInv K n d c u nl zs H1 b N 0 (L2.upd H1 b (.lst [])) := by
  have s := same_upd (o := .lst []) nb
  refine ⟨[], [], rfl, upd_same, fun a o _ _ _ h e => s _ _ e, (D.same s).mono ?_, W.same s, .nil, fun x hx => (nomatch hx)⟩
  rw [Int.natCast_zero, Int.zero_mul]
  omega
theorem TInv.step {K : PySem.W.Frag} {n : Nat} {d c u nl : Addr} {zs : List Str} {H1 H : Hp} {b : Addr} {N M deep ins : Int} {i : Nat} {Q : VK} {E : XK} (D : Deck H1 d c M) (W : Wo H1 d c u nl zs) (nb : H1 b = none) (T : TInv K n d c u nl zs H1 b N i H) (hi : i ≤ 2)
    (hN : N + 3 * dr n < 2 ^ 58) (hd : deep ≤ (n : Int)) (q : ∀ H' v, (∃ acc, H' b = some (.lst acc) ∧ acc.length < sizeLine ∧ TInv K n d c u nl zs H1 b N (i + 1) (L2.upd H' b (.lst (acc ++ [v])))) → Q v H') :
    sp_term K n [.ref d, .ref u, .int deep, .int ins] H Q E := by
  obtain ⟨vs, ds, hlen, hb, kk, D2, W2, hdp, hex⟩ := T
  have h1 := D.new nb
  have h2 := W.new nb
  have p := dr_pos n
  have hm : (i : Int) * dr n ≤ 2 * dr n := Int.mul_le_mul_of_nonneg_right (by omega) (by omega)
  have hs : ((i + 1 : Nat) : Int) * dr n = (i : Int) * dr n + dr n := by rw [Int.natCast_succ, Int.add_mul, Int.one_mul]
  refine ⟨d, c, u, nl, _, deep, ins, zs, rfl, D2, ?_, W2, hd, fun H' v x k D3 W3 he hv => q _ _ ?_⟩
  · omega
  have hb3 := k b _ h1.1 h1.2 h2.1 hb
  have kt := k.t D2 W2
  have kt2 : KeepT H' (L2.upd H' b (.lst (vs ++ [v]))) := KeepT.lst hb3
  refine ⟨vs, hb3, small1000 (by omega), vs ++ [v], ds ++ [x], by rw [List.length_append, hlen]; rfl, upd_same, ?_, ?_, W3.upd h2.1 h2.2, ?_, ?_⟩
  · intro a o n1 n2 n3 n4 e
    rw [upd_ne n4]
    exact k _ _ n1 n2 n3 (kk a o n1 n2 n3 n4 e)
  · refine (D3.upd h1.1 h1.2).mono ?_
    omega
  · refine dpAll_append (dp_keepAll (kt.trans kt2) _ _ (flatDs_of fun y hy => (hex y hy).flat) hdp) (.cons (dp_keep kt2 _ _ he.flat hv) .nil)
  · intro y hy
    rcases List.mem_append.mp hy with hy | hy
    · exact hex y hy
    · rw [List.mem_singleton.mp hy]
      exact he
end K7

namespace K7
open PySem PySem.Spec PyProof.Rows L2 GR
theorem noSl_name {x : Str} {pos : Pos} : NoSl (.Name x pos) := fun _ _ => rfl
abbrev fours : List Str := ["count", "sum", "most", "first"]
def manyK : List (Key × V) := [(.inr "count", .int 1), (.inr "sum", .int 2), (.inr "most", .int 3), (.inr "first", .int 2)]
theorem many_of : ∀ o, o ∈ fours → ∃ m : Nat, valV (mergeK [] manyK) (.inr o) = some (.int (m : Int)) ∧ (o, m) ∈ aggs ∧ m ≤ 3 ∧ 1 ≤ m := by
  intro o ho
  simp only [List.mem_cons, List.not_mem_nil, or_false] at ho
  rcases ho with rfl | rfl | rfl | rfl
  · exact ⟨1, by decide, by decide, by decide, by decide⟩
  · exact ⟨2, by decide, by decide, by decide, by decide⟩
  · exact ⟨3, by decide, by decide, by decide, by decide⟩
  · exact ⟨2, by decide, by decide, by decide, by decide⟩
theorem TInv.keep {K : PySem.W.Frag} {n : Nat} {d c u nl : Addr} {zs : List Str} {H0 H1 H : Hp} {b : Addr} {N : Int} {i : Nat} (T : TInv K n d c u nl zs H1 b N i H) (k : KeepW d c u H0 H1) (nb : H0 b = none) : KeepW d c u H0 H := by
  obtain ⟨vs, ds, hlen, hb, kk, _⟩ := T
  exact fun a o n1 n2 n3 e => kk a o n1 n2 n3 (ne_of_none e nb) (k a o n1 n2 n3 e)
theorem KeepW.free {d c u a : Addr} {H H' : Hp} (s : KeepW d c u H H') (na : H' a = none) (h1 : a ≠ d) (h2 : a ≠ c) (h3 : a ≠ u) : H a = none := by
  cases q : H a with
  | none => rfl
  | some o =>
    rw [s a o h1 h2 h3 q] at na
    cases na
section
variable {P : Program} {w : World} {K : PySem.W.Frag} {mg : Str → Option Value} {base : Heap}
abbrev s_law_rows : Stmt := topS 40
abbrev N_rows : List Str := ["_law_deck_here", "_law_world_here", "_law_deep", "_law_inside", "_law_table", "_law_word", "_law_many", "_law_some", "_law_k"]
abbrev ps_term : List Str := ["_law_deck_here", "_law_world_here", "_law_deep", "_law_inside"]
theorem sc_law_rows : FnScope N_rows ps_term (defScope s_law_rows) := ⟨rfl, rfl, rfl, by decide +kernel, rfl, by decide +kernel, by decide +kernel⟩
/-- an aggregate whose parts are terms of depth n -/
def sp_rows (K : PySem.W.Frag) (n : Nat) : Sp := fun vs H Q _ => ∃ (d c u nl : Addr) (N deep ins : Int) (zs : List Str), vs = [.ref d, .ref u, .int deep, .int ins] ∧ Deck H d c N ∧ N + 10 + 6 * dr n < 2 ^ 58 ∧ Wo H d c u nl zs ∧ deep ≤ (n : Int) + 1 ∧
  ∀ H' v x, KeepW d c u H H' → Deck H' d c (N + 10 + 6 * dr n) → Wo H' d c u nl zs → Ex zs (n + 3) x → Dp K H' v x → Q v H'
theorem ok_rows {n : Nat} {f f_law_draw f_law_pick f_law_term : Addr} {fd fd_law_draw fd_law_pick fd_law_term : FuncData} {k : Nat} (F : Fun K "_law_rows" "_law_rows" s_law_rows f fd) (G_law_draw : FnOk P w K mg base CX0 k f_law_draw fd_law_draw ["_law_deck_here", "_law_most"] sp_draw)
    (g_law_draw : mg "_law_draw" = some (.ref f_law_draw)) (K_law_draw : PySem.W.keepIn K (.ref f_law_draw) = true) (b_law_draw : Binds K fd_law_draw ["_law_deck_here", "_law_most"] [])
    (G_law_pick : FnOk P w K mg base CX0 k f_law_pick fd_law_pick ["_law_deck_here", "_law_some"] (sp_pick K))
    (g_law_pick : mg "_law_pick" = some (.ref f_law_pick)) (K_law_pick : PySem.W.keepIn K (.ref f_law_pick) = true) (b_law_pick : Binds K fd_law_pick ["_law_deck_here", "_law_some"] [])
    (G_law_term : FnOk P w K mg base CX0 k f_law_term fd_law_term ps_term (sp_term K n))
    (g_law_term : mg "_law_term" = some (.ref f_law_term)) (K_law_term : PySem.W.keepIn K (.ref f_law_term) = true) (b_law_term : Binds K fd_law_term ps_term [])
    (mrange : mg "range" = none) (mtuple : mg "tuple" = none) :
    FnOk P w K mg base CX0 (k + 1) f fd ps_term (sp_rows K n) := by
  have nd := sc_law_rows.nd
  refine F.ok sc_law_rows (fun vs H Q E h => ?_) (fun cdv A outer s H vs Q E hr h => ?_)
  · obtain ⟨d, c, u, nl, N, deep, ins, zs, rfl, _⟩ := h
    rfl
  obtain ⟨d, c, u, nl, N, deep, ins, zs, rfl, D, hN, W, hdeep, q⟩ := h
  have hp := dr_pos n
  have hu1 : (A.deeper (envOfC "_law_rows" (defScope s_law_rows) s.heap.objs.size f cdv)).units + 1 < cLine := by
    have := hr.units
    omega
  refine ⟨_, (pss_cons (ps_set (i := 4) nd rfl (.inl rfl) (pe_call G_law_pick hr (by rfl) g_law_pick K_law_pick b_law_pick .nil pass0 (pa_cons (pv 0) (pa_cons (pe_dget hu1 (pv 1) pe_str noSl_str) pa_nil))))
      (pss_cons (ps_set (i := 5) nd rfl (.inl rfl) (pe_call G_law_pick hr (by rfl) g_law_pick K_law_pick b_law_pick .nil pass0 (pa_cons (pv 0) (pa_cons (pe_lst (pa_cons pe_str (pa_cons pe_str (pa_cons pe_str (pa_cons pe_str pa_nil))))) pa_nil))))
      (pss_cons (ps_set (i := 6) nd rfl (.inl rfl) (pe_dget hu1 (pe_disp (pps_cons pe_str pe_int (pps_cons pe_str pe_int (pps_cons pe_str pe_int (pps_cons pe_str pe_int pps_nil)))) (by decide) rfl (by simp) (by decide)) (pv 5) noSl_name))
      (pss_cons (ps_set (i := 7) nd rfl (.inl rfl) (pe_tup (pa_cons (pv 5) (pa_cons (pv 4) (pa_cons (pe_tup pa_nil) (pa_cons (pe_tup (pa_cons pe_str (pa_cons (pv 4) (pa_cons (pe_tup (pa_cons pe_str pa_nil)) (pa_cons pe_str pa_nil))))) pa_nil))))))
      (pss_one (ps_ret (pe_op op_catT (pv 7) (pe_callTy call_tuple_of (by rfl) mtuple boot_tuple (pa_cons (pe_lc (own := [("_law_k", 8)]) rfl nd (pi_range1 rfl mrange (pa_cons (pv 6) pa_nil)) (blkOk_by (N := N_rows) (sc := defScope s_law_rows) (by decide +kernel)) (fun _ _ _ _ _ => (pg_name (i := 8) nd rfl (Or.inl rfl))) (fun _ _ _ _ _ => pts_nil)
          (te := tCall (sp_term K n) [] E0 (tCons (tVar 0) (tCons (tVar 1) (tCons (tOp (rI0 fun i j => .int (i - j)) (tVar 2) (tC (.int 1))) (tCons (tVar 3) tNil)))))
          (fun _ _ _ _ _ => (pe_call G_law_term hr (by rfl) g_law_term K_law_term b_law_term .nil pass0 (pa_cons (pv 0) (pa_cons (pv 1) (pa_cons (pe_op op_sub (pv 2) pe_int) (pa_cons (pv 3) pa_nil))))))) pa_nil))))))))), ?_⟩
  -- table
  obtain ⟨L, hL⟩ := W.dct
  refine ⟨.ref d, rfl, .ref u, rfl, u, .ref nl, rfl, ?_, .inl ⟨d, c, nl, N, _, rfl, D, by omega, .inl (.inl W.nms), ?_, ?_, W.nd, W.nc, fun H1 v1 k1 D1 hv1 => ?_⟩⟩
  · rw [← wK_names nl L]
    exact DGet.k (k := .inr "names") hL
  · intro e
    have := congrArg List.length e
    rw [List.length_map, W.len] at this
    cases this
  · rw [List.length_map, W.len]
    decide
  obtain ⟨t, ht, rfl⟩ := List.mem_map.mp hv1
  have W1 := W.keep D k1
  -- word
  refine ⟨.ref d, rfl, small_le (show 4 ≤ 1000 by decide), fun l nl' => ?_⟩
  have sl := same_upd (o := .lst [.str "count", .str "sum", .str "most", .str "first"]) nl'
  have hl := D1.new nl'
  have hl1 : SqL K (upd H1 l (.lst [.str "count", .str "sum", .str "most", .str "first"])) l (fours.map V.str) := .inl (.inl upd_same)
  refine .inl ⟨d, c, l, N + 1, _, rfl, D1.same sl, by omega, hl1, List.cons_ne_nil _ _, by decide, hl.1, hl.2, fun H2 v2 k2 D2 hv2 => ?_⟩
  obtain ⟨o, ho, rfl⟩ := List.mem_map.mp hv2
  have W2 := (W1.same sl).keep (D1.same sl) k2
  have k02 : KeepW d c u H H2 := ((k1.trans (Keep.of sl)).trans k2).w u
  clear hl1 hL
  obtain ⟨m, hm1, hm2, hm3, hm4⟩ := many_of o ho
  intro p np
  have sp := same_upd (o := .dK []) np
  refine ⟨upd_same, manyK, rfl, by decide, .str o, rfl, p, .int (m : Int), rfl, by rw [← hm1]; exact DGet.k (k := .inr o) upd_same, ?_⟩
  have s5 : Same H2 (upd (upd H2 p (.dK [])) p (.dK (mergeK [] manyK))) := fun b ob e => by
    rw [upd_ne (ne_of_none e np)]
    exact sp _ _ e
  revert s5
  generalize upd (upd H2 p (.dK [])) p (.dK (mergeK [] manyK)) = H3
  intro s5
  refine ⟨.str o, rfl, .str t, rfl, Nat.zero_le _, fun p0 np0 => ⟨.str t, rfl, Nat.le_trans (by decide) le2, fun p1 np1 => ⟨small_le (show 4 ≤ 1000 by decide), fun p2 np2 => ⟨small_le (show 4 ≤ 1000 by decide), fun a na => ?_⟩⟩⟩⟩
  have s0 := same_upd (o := .tup []) np0
  have s1 := same_upd (o := .tup [.str "key"]) np1
  have s2 := same_upd (o := .tup [.str "cell", .str t, .ref p1, .str "in"]) np2
  have s3 := same_upd (o := .tup [.str o, .str t, .ref p0, .ref p2]) na
  have s02 := ((s0.trans s1).trans s2).trans s3
  have x0 := s3 _ _ (s2 _ _ (s1 _ _ (show upd H3 p0 (.tup []) p0 = _ from upd_same)))
  have x1 := s3 _ _ (s2 _ _ (show upd (upd H3 p0 (.tup [])) p1 (.tup [.str "key"]) p1 = _ from upd_same))
  have x2 := s3 _ _ (show upd (upd (upd H3 p0 (.tup [])) p1 (.tup [.str "key"])) p2 (.tup [.str "cell", .str t, .ref p1, .str "in"]) p2 = _ from upd_same)
  have ha : upd (upd (upd (upd H3 p0 (.tup [])) p1 (.tup [.str "key"])) p2 (.tup [.str "cell", .str t, .ref p1, .str "in"])) a (.tup [.str o, .str t, .ref p0, .ref p2]) a = some (.tup [.str o, .str t, .ref p0, .ref p2]) := upd_same
  revert s02 x0 x1 x2 ha
  generalize upd (upd (upd (upd H3 p0 (.tup [])) p1 (.tup [.str "key"])) p2 (.tup [.str "cell", .str t, .ref p1, .str "in"])) a (.tup [.str o, .str t, .ref p0, .ref p2]) = H6
  intro s02 x0 x1 x2 ha
  have s46 := s5.trans s02
  have k6 := k02.trans (KeepW.of s46)
  have D6 := D2.same s46
  have W6 := W2.same s46
  have dp0 : Dp K H6 (.ref p0) (.tuple []) := .tup (.inl (.inl x0)) .nil
  have dp2 : Dp K H6 (.ref p2) (rowX t) := .tup (.inl (.inl x2)) (.cons (.str _) (.cons (.str _) (.cons (.tup (.inl (.inl x1)) (.cons (.str _) .nil)) (.cons (.str _) .nil))))
  refine ⟨.ref a, rfl, .int (m : Int), rfl, (m : Int), rfl, by omega, by omega, fun B nB => ?_⟩
  have em : ((m : Int)).toNat = m := by omega
  rw [em]
  have hm : (m : Int) * dr n ≤ 3 * dr n := Int.mul_le_mul_of_nonneg_right (by omega) (by omega)
  refine lc_range (n := m) (fun i H' => TInv K n d c u nl zs H6 B (N + 5 + 3 * dr n) i H') (TInv.start (D6.mono (by omega)) W6 nB) ?_ ?_
  · rintro i H7 hi T
    exact ⟨rfl, yes_then ⟨.ref d, rfl, .ref u, rfl, .int deep, rfl, deep, 1, rfl, rfl, .int ins, rfl, TInv.step (E := E) (D6.mono (show N + 1 + 1 ≤ N + 5 + 3 * dr n by omega)) W6 nB T (by omega) (by omega) (by omega) (fun H' v h => h)⟩⟩
  · rintro H7 T
    have k7 := T.keep KeepW.refl nB
    obtain ⟨vs, ds, hlen, hb, kk, D7, W7, hdp, hex⟩ := T
    refine ⟨B, _, rfl, .inl ⟨.inl (.inl hb), fun l nl1 => ?_⟩⟩
    have s8 := same_upd (o := .tup vs) nl1
    have t67 := k7.t D6 W6
    have t68 := t67.trans (KeepT.of s8)
    have ha8 := t68.1 _ _ ha
    have hl8 : upd H7 l (.tup vs) l = some (.tup vs) := upd_same
    refine ⟨a, l, _, _, rfl, rfl, .inl (.inl ha8), .inl (.inl hl8), List.cons_ne_nil _ _, ?_, fun e => ?_, fun _ r nr => ?_⟩
    · rw [hlen]
      exact small_le (show 4 + m ≤ 1000 by omega)
    · rw [e] at hlen
      rw [← hlen] at hm4
      exact absurd hm4 (by decide)
    have s9 := same_upd (o := .tup ([.str o, .str t, .ref p0, .ref p2] ++ vs)) nr
    have t69 := t68.trans (KeepT.of s9)
    refine q _ _ (.tuple (.str o :: .str t :: .tuple [] :: rowX t :: ds)) (k6.trans (k7.trans (KeepW.of (s8.trans s9)))) (((D7.same s8).same s9).mono (by omega)) ((W7.same s8).same s9) ?_ ?_
    · refine .agg (n + 2) o t ds (by omega) ?_ ht hex
      rw [← dpAll_len hdp, hlen]
      exact hm2
    · refine .tup (.inl (.inl upd_same)) (.cons (.str o) (.cons (.str t) (.cons (dp_keep t69 _ _ rfl dp0) (.cons (dp_keep t69 _ _ rfl dp2) ?_))))
      exact dp_keepAll ((KeepT.of s8).trans (KeepT.of s9)) _ _ (flatDs_of fun z hz => (hex z hz).flat) hdp
end
end K7

namespace K7
open PySem PySem.Spec PyProof.Rows L2 GR
abbrev sevens : List Str := ["+", "-", "*", "<", "=", "at", "at"]
theorem seven_op : ∀ o, o ∈ sevens → o ∈ opws := by
  intro o ho
  simp only [List.mem_cons, List.not_mem_nil, or_false] at ho
  rcases ho with rfl | rfl | rfl | rfl | rfl | rfl | rfl <;> decide
section
variable {P : Program} {w : World} {K : PySem.W.Frag} {mg : Str → Option Value} {base : Heap}
abbrev s_law_term : Stmt := topS 41
abbrev N_term : List Str := ["_law_deck_here", "_law_world_here", "_law_deep", "_law_inside", "_law_way", "_law_one", "_law_other"]
theorem sc_law_term : FnScope N_term ps_term (defScope s_law_term) := ⟨rfl, rfl, rfl, by decide +kernel, rfl, by decide +kernel, by decide +kernel⟩
/-- one step: the terms of depth n, the aggregates upon them give the terms of depth n + 1; at depth 0 there are leaves only (j = 0) -/
theorem ok_term_step {j : Nat} {f f_law_draw f_law_pick f_law_leaf f_law_rows : Addr} {fd fd_law_draw fd_law_pick fd_law_leaf fd_law_rows : FuncData} {k : Nat} (F : Fun K "_law_term" "_law_term" s_law_term f fd) (G_law_draw : FnOk P w K mg base CX0 k f_law_draw fd_law_draw ["_law_deck_here", "_law_most"] sp_draw)
    (g_law_draw : mg "_law_draw" = some (.ref f_law_draw)) (K_law_draw : PySem.W.keepIn K (.ref f_law_draw) = true) (b_law_draw : Binds K fd_law_draw ["_law_deck_here", "_law_most"] [])
    (G_law_pick : FnOk P w K mg base CX0 k f_law_pick fd_law_pick ["_law_deck_here", "_law_some"] (sp_pick K))
    (g_law_pick : mg "_law_pick" = some (.ref f_law_pick)) (K_law_pick : PySem.W.keepIn K (.ref f_law_pick) = true) (b_law_pick : Binds K fd_law_pick ["_law_deck_here", "_law_some"] [])
    (G_law_leaf : FnOk P w K mg base CX0 k f_law_leaf fd_law_leaf ["_law_deck_here", "_law_world_here"] (sp_leaf K))
    (g_law_leaf : mg "_law_leaf" = some (.ref f_law_leaf)) (K_law_leaf : PySem.W.keepIn K (.ref f_law_leaf) = true) (b_law_leaf : Binds K fd_law_leaf ["_law_deck_here", "_law_world_here"] [])
    (G_law_rows : FnOk P w K mg base CX0 k f_law_rows fd_law_rows ps_term (fun vs H Q E => ∃ n, j = n + 1 ∧ sp_rows K n vs H Q E))
    (g_law_rows : mg "_law_rows" = some (.ref f_law_rows)) (K_law_rows : PySem.W.keepIn K (.ref f_law_rows) = true) (b_law_rows : Binds K fd_law_rows ps_term [])
    (G_law_term : FnOk P w K mg base CX0 k f fd ps_term (fun vs H Q E => ∃ n, j = n + 1 ∧ sp_term K n vs H Q E))
    (g_law_term : mg "_law_term" = some (.ref f)) (K_law_term : PySem.W.keepIn K (.ref f) = true) (b_law_term : Binds K fd ps_term []) :
    FnOk P w K mg base CX0 (k + 1) f fd ps_term (sp_term K j) := by
  have nd := sc_law_term.nd
  refine F.ok sc_law_term (fun vs H Q E h => ?_) (fun cdv A outer s H vs Q E hr h => ?_)
  · obtain ⟨d, c, u, nl, N, deep, ins, zs, rfl, _⟩ := h
    rfl
  obtain ⟨d, c, u, nl, N, deep, ins, zs, rfl, D, hN, W, hdeep, q⟩ := h
  have hp := dr_pos j
  have hu1 : (A.deeper (envOfC "_law_term" (defScope s_law_term) s.heap.objs.size f cdv)).units + 1 < cLine := by
    have := hr.units
    omega
  refine ⟨_, (pss_cons (ps_asg (pe_op op_sub (pe_dget hu1 (pv 1) pe_str noSl_str) pe_int) (pg_sub (pv 1) pe_str (set_dict hu1)))
      (pss_cons (ps_set (i := 4) nd rfl (.inl rfl) (pe_call G_law_draw hr (by rfl) g_law_draw K_law_draw b_law_draw .nil pass0 (pa_cons (pv 0) (pa_cons pe_int pa_nil))))
      (pss_cons (ps_if (PW.pt (pw_or (pt_cmpR op_lt (pv 2) pe_int (nomark _)) (pw_or (pt_cmpR op_lt (pe_dget hu1 (pv 1) pe_str noSl_str) pe_int (nomark _)) (pw_or1 (pt_cmpR op_lt (pv 4) pe_int (nomark _))))))
      (pss_one (ps_ret (pe_call G_law_leaf hr (by rfl) g_law_leaf K_law_leaf b_law_leaf .nil pass0 (pa_cons (pv 0) (pa_cons (pv 1) pa_nil)))))
      pss_nil)
      (Evl.pss_cut (ps_if (PW.pt (pw_and (pt_cmpR op_gt (pv 4) pe_int (nomark _)) (pw_and1 (pt_cmpR op_lt (pv 3) pe_int (nomark _)))))
      (pss_one (ps_ret (pe_call G_law_rows hr (by rfl) g_law_rows K_law_rows b_law_rows .nil pass0 (pa_cons (pv 0) (pa_cons (pv 1) (pa_cons (pv 2) (pa_cons (pe_op op_add (pv 3) pe_int) pa_nil)))))))
      pss_nil)
      (pss_cons (ps_set (i := 5) nd rfl (.inl rfl) (pe_call G_law_term hr (by rfl) g_law_term K_law_term b_law_term .nil pass0 (pa_cons (pv 0) (pa_cons (pv 1) (pa_cons (pe_op op_sub (pv 2) pe_int) (pa_cons (pv 3) pa_nil))))))
      (pss_cons (ps_if (pt_cmpR op_lt (pv 4) pe_int (nomark _))
      (pss_one (ps_ret (pe_tup (pa_cons pe_str (pa_cons (pe_call G_law_pick hr (by rfl) g_law_pick K_law_pick b_law_pick .nil pass0 (pa_cons (pv 0) (pa_cons (pe_dget hu1 (pv 1) pe_str noSl_str) pa_nil))) (pa_cons (pv 5) (pa_cons (pe_call G_law_pick hr (by rfl) g_law_pick K_law_pick b_law_pick .nil pass0 (pa_cons (pv 0) (pa_cons (pe_dget hu1 (pv 1) pe_str noSl_str) pa_nil))) pa_nil)))))))
      pss_nil)
      (pss_cons (ps_set (i := 6) nd rfl (.inl rfl) (pe_call G_law_term hr (by rfl) g_law_term K_law_term b_law_term .nil pass0 (pa_cons (pv 0) (pa_cons (pv 1) (pa_cons (pe_op op_sub (pv 2) pe_int) (pa_cons (pv 3) pa_nil))))))
      (pss_cons (ps_if (pt_cmpR op_eq (pv 4) pe_int (nomark _))
      (pss_one (ps_ret (pe_tup (pa_cons pe_str (pa_cons (pv 5) (pa_cons (pv 6) (pa_cons (pe_call G_law_term hr (by rfl) g_law_term K_law_term b_law_term .nil pass0 (pa_cons (pv 0) (pa_cons (pv 1) (pa_cons (pe_op op_sub (pv 2) pe_int) (pa_cons (pv 3) pa_nil))))) pa_nil)))))))
      pss_nil)
      (pss_one (ps_ret (pe_tup (pa_cons (pe_call G_law_pick hr (by rfl) g_law_pick K_law_pick b_law_pick .nil pass0 (pa_cons (pv 0) (pa_cons (pe_lst (pa_cons pe_str (pa_cons pe_str (pa_cons pe_str (pa_cons pe_str (pa_cons pe_str (pa_cons pe_str (pa_cons pe_str pa_nil)))))))) pa_nil))) (pa_cons (pv 5) (pa_cons (pv 6) pa_nil)))))))))))))), ?_⟩
  -- one less may come
  obtain ⟨L, hL⟩ := W.dct
  refine ⟨.ref u, rfl, u, .int L, rfl, by rw [← wK_left nl L]; exact DGet.k (k := .inr "left") hL, L, 1, rfl, rfl, .ref u, rfl, u, _, rfl, DPut.k (k := .inr "left") hL (small1000 (show 2 ≤ 1000 by decide)), ?_⟩
  rw [wK_put]
  have hud := W.ud D
  have k1 : KeepW d c u H (upd H u (.dK (wK nl (L - 1)))) := fun b o n1 n2 n3 e => by
    rw [upd_ne n3]
    exact e
  have D1 := D.upd (o := .dK (wK nl (L - 1))) hud.1 hud.2
  have W1 : Wo (upd H u (.dK (wK nl (L - 1)))) d c u nl zs := by
    refine ⟨⟨L - 1, upd_same⟩, ?_, W.nd, W.nc, W.len, W.all, W.inn⟩
    rw [upd_ne W.un]
    exact W.nms
  revert k1 D1 W1
  generalize upd H u (.dK (wK nl (L - 1))) = H1
  intro k1 D1 W1
  clear hL
  refine ⟨.ref d, rfl, d, c, N, 14, rfl, D1, by omega, by decide, by decide, fun H2 way k2 D2 w0 w1 => ?_⟩
  have W2 := W1.keep D1 k2
  have k02 := k1.trans (k2.w u)
  obtain ⟨L2', hL2⟩ := W2.dct
  have lf : ∀ E', sp_leaf K [.ref d, .ref u] H2 Q E' := fun E' => ⟨d, c, u, nl, N + 1, zs, rfl, D2, by omega, W2, fun H' v x k D' hx hv => q H' v x (k02.trans (k.w u)) (D'.mono (by omega)) (W2.keep D2 k) (.leaf (j + 1) x hx) hv⟩
  refine ⟨.int deep, rfl, _, _, rfl, rfl, _, rfl, ite2 (fun e1 => iteT ⟨.ref d, rfl, .ref u, rfl, lf E⟩) (fun e1 => ⟨.ref u, rfl, u, .int L2', rfl, by rw [← wK_left nl L2']; exact DGet.k (k := .inr "left") hL2, _, _, rfl, rfl, _, rfl, ite2 (fun e2 => iteT ⟨.ref d, rfl, .ref u, rfl, lf E⟩) (fun e2 => ⟨.int way, rfl, _, _, rfl, rfl, _, rfl, ite2 (fun e3 => ⟨.ref d, rfl, .ref u, rfl, lf E⟩) (fun e3 => ?_)⟩)⟩)⟩
  have hd1 : ¬ deep < 1 := fun z => e1 (decide_eq_true z)
  obtain ⟨n, rfl⟩ : ∃ n, j = n + 1 := ⟨j - 1, by omega⟩
  have hpn := dr_pos n
  have hdr : dr (n + 1) = 20 + 6 * dr n := rfl
  have hlen7 : zs.map V.str ≠ [] := by
    intro e
    have := congrArg List.length e
    rw [List.length_map, W2.len] at this
    cases this
  have hlen8 : (zs.map V.str).length ≤ 1000 := by
    rw [List.length_map, W2.len]
    decide
  refine ⟨fun σ' H' => σ' = [some (.ref d), some (.ref u), some (.int deep), some (.int ins), some (.int way), none, none] ∧ H' = H2, ?_, ?_⟩
  · refine ⟨.int way, rfl, _, _, rfl, rfl, _, rfl, ite2 (fun e4 => ⟨.int ins, rfl, _, _, rfl, rfl, _, rfl, ite2 (fun e5 => ?_) (fun e5 => ⟨rfl, rfl⟩)⟩) (fun e4 => iteF ⟨rfl, rfl⟩)⟩
    exact ⟨.ref d, rfl, .ref u, rfl, .int deep, rfl, .int ins, rfl, ins, 1, rfl, rfl, n, rfl, d, c, u, nl, N + 1, deep, ins + 1, zs, rfl, D2, by omega, W2, by omega, fun H' v x k D' W' hx hv => q H' v x (k02.trans k) (D'.mono (by omega)) W' hx hv⟩
  rintro σ' H' ⟨rfl, rfl⟩
  refine ⟨.ref d, rfl, .ref u, rfl, .int deep, rfl, deep, 1, rfl, rfl, .int ins, rfl, n, rfl, d, c, u, nl, N + 1, deep - 1, ins, zs, rfl, D2, by omega, W2, by omega, fun H3 v1 x1 k3 D3 W3 he1 hv1 => ?_⟩
  have k03 := k02.trans k3
  refine ⟨.int way, rfl, _, _, rfl, rfl, _, rfl, ite2 (fun e6 => ?_) (fun e6 => ?_)⟩
  · -- a cell
    obtain ⟨L3, hL3⟩ := W3.dct
    refine ⟨.ref d, rfl, .ref u, rfl, u, .ref nl, rfl, by rw [← wK_names nl L3]; exact DGet.k (k := .inr "names") hL3, .inl ⟨d, c, nl, _, _, rfl, D3, by omega, .inl (.inl W3.nms), hlen7, hlen8, W3.nd, W3.nc, fun H4 v4 k4 D4 hv4 => ?_⟩⟩
    obtain ⟨t, ht, rfl⟩ := List.mem_map.mp hv4
    have W4 := W3.keep D3 k4
    obtain ⟨L4, hL4⟩ := W4.dct
    refine ⟨v1, rfl, .ref d, rfl, .ref u, rfl, u, .ref nl, rfl, by rw [← wK_names nl L4]; exact DGet.k (k := .inr "names") hL4, .inl ⟨d, c, nl, _, _, rfl, D4, by omega, .inl (.inl W4.nms), hlen7, hlen8, W4.nd, W4.nc, fun H5 v5 k5 D5 hv5 => ?_⟩⟩
    obtain ⟨y, hy, rfl⟩ := List.mem_map.mp hv5
    have W5 := W4.keep D4 k5
    refine ⟨small_le (show 4 ≤ 1000 by decide), fun p np => ?_⟩
    have s := same_upd (o := .tup [.str "cell", .str t, v1, .str y]) np
    refine q _ _ _ (k03.trans (((k4.trans k5).w u).trans (KeepW.of s))) ((D5.same s).mono (by omega)) (W5.same s) (.cell (n + 2) t y x1 ht hy he1) (.tup (.inl (.inl upd_same)) (.cons (.str _) (.cons (.str t) (.cons ?_ (.cons (.str y) .nil)))))
    exact dp_keep (((k4.t D3).trans (k5.t D4)).trans (KeepT.of s)) _ _ he1.flat hv1
  refine ⟨.ref d, rfl, .ref u, rfl, .int deep, rfl, deep, 1, rfl, rfl, .int ins, rfl, n, rfl, d, c, u, nl, _, deep - 1, ins, zs, rfl, D3, by omega, W3, by omega, fun H4 v2 x2 k4 D4 W4 he2 hv2 => ?_⟩
  have k04 := k03.trans k4
  have t4 := k4.t D3 W3
  refine ⟨.int way, rfl, rfl, _, rfl, ite2 (fun e7 => ?_) (fun e7 => ?_)⟩
  · -- an if
    refine ⟨v1, rfl, v2, rfl, .ref d, rfl, .ref u, rfl, .int deep, rfl, deep, 1, rfl, rfl, .int ins, rfl, n, rfl, d, c, u, nl, _, deep - 1, ins, zs, rfl, D4, by omega, W4, by omega, fun H5 v3 x3 k5 D5 W5 he3 hv3 => ⟨small_le (show 4 ≤ 1000 by decide), fun p np => ?_⟩⟩
    have s := same_upd (o := .tup [.str "if", v1, v2, v3]) np
    have t5 := k5.t D4 W4
    refine q _ _ _ (k04.trans (k5.trans (KeepW.of s))) ((D5.same s).mono (by omega)) (W5.same s) (.iff (n + 2) x1 x2 x3 he1 he2 he3) (.tup (.inl (.inl upd_same)) (.cons (.str _) (.cons ?_ (.cons ?_ (.cons ?_ .nil)))))
    · exact dp_keep ((t4.trans t5).trans (KeepT.of s)) _ _ he1.flat hv1
    · exact dp_keep (t5.trans (KeepT.of s)) _ _ he2.flat hv2
    · exact dp_keep (KeepT.of s) _ _ he3.flat hv3
  -- one of two
  refine ⟨.ref d, rfl, small_le (show 7 ≤ 1000 by decide), fun l nl' => ?_⟩
  have sl := same_upd (o := .lst [.str "+", .str "-", .str "*", .str "<", .str "=", .str "at", .str "at"]) nl'
  have hl := D4.new nl'
  have hl1 : SqL K (upd H4 l (.lst [.str "+", .str "-", .str "*", .str "<", .str "=", .str "at", .str "at"])) l (sevens.map V.str) := .inl (.inl upd_same)
  have D5 := D4.same sl
  have W5 := W4.same sl
  refine .inl ⟨d, c, l, _, _, rfl, D5, by omega, hl1, List.cons_ne_nil _ _, by decide, hl.1, hl.2, fun H6 v6 k6 D6 hv6 => ?_⟩
  obtain ⟨o, ho, rfl⟩ := List.mem_map.mp hv6
  have W6 := W5.keep D5 k6
  have t6 := (KeepT.of sl).trans (k6.t D5)
  refine ⟨v1, rfl, v2, rfl, small_le (show 3 ≤ 1000 by decide), fun p np => ?_⟩
  have s := same_upd (o := .tup [.str o, v1, v2]) np
  refine q _ _ _ (k04.trans ((KeepW.of sl).trans ((k6.w u).trans (KeepW.of s)))) ((D6.same s).mono (by omega)) (W6.same s) (.op (n + 2) o x1 x2 (seven_op o ho) he1 he2) (.tup (.inl (.inl upd_same)) (.cons (.str o) (.cons ?_ (.cons ?_ .nil))))
  · exact dp_keep ((t4.trans t6).trans (KeepT.of s)) _ _ he1.flat hv1
  · exact dp_keep (t6.trans (KeepT.of s)) _ _ he2.flat hv2
end
end K7

namespace K7
open PySem PySem.Spec PyProof.Rows L2 GR
/-! ### the law's deck -/
section
variable {P : Program} {w : World} {K : PySem.W.Frag} {mg : Str → Option Value} {base : Heap}
end
section
variable {P : Program} {w : World} {K : PySem.W.Frag} {mg : Str → Option Value} {base : Heap}
end
end K7

namespace K7
open PySem PySem.Spec PyProof.Rows L2 GR
section
variable {P : Program} {w : World} {K : PySem.W.Frag} {mg : Str → Option Value} {base : Heap}
end
end K7

namespace K7
open PySem PySem.Spec PyProof.Rows L2 GR
section
variable {P : Program} {w : World} {K : PySem.W.Frag} {mg : Str → Option Value} {base : Heap}
end
end K7

namespace K7
open PySem PySem.Spec PyProof.Rows L2 GR
section
variable {P : Program} {w : World} {K : PySem.W.Frag} {mg : Str → Option Value} {base : Heap}
end
end K7

namespace GR
open PySem PySem.Spec PyProof.Rows L2
theorem FnG.mono {P : Program} {w : World} {K : PySem.W.Frag} {mg : Str → Option Value} {base : Heap} {CX : CXT} {j k : Nat} {f : Addr} {fd : FuncData} {ps : List Str} {sp : Sp} (F : FnG P w K mg base CX j f fd ps sp) (h : j ≤ k) : FnG P w K mg base CX k f fd ps sp :=
  ⟨F.size, fun A outer s H args us vs Q E g hr => F.go A outer s H args us vs Q E g (hr.mono h)⟩
/-! ### the signs of what repr shows -/
abbrev SO (x : Str) : Prop := ∀ c, c ∈ x.cps.toList → c < 0x110000
theorem so_iff {x : Str} : PyData.strOk x = true ↔ SO x := by
  unfold PyData.strOk
  rw [Array.all_eq_true']
  constructor
  · intro h c hc
    have := h c (by simpa using hc)
    simpa using this
  · intro h c hc
    have := h c (by simpa using hc)
    simpa using this
theorem so_append {x y : Str} (hx : SO x) (hy : SO y) : SO (x ++ y) := fun c hc => by
  rcases mem_cps_append.mp hc with h | h
  · exact hx c h
  · exact hy c h
theorem so_join {sep : Str} (hs : SO sep) {ts : List Str} (h : ∀ t, t ∈ ts → SO t) : SO (Str.join sep ts) := fun c hc => by
  rcases (mem_join sep c ts).mp hc with ⟨t, ht, hc⟩ | ⟨_, hc⟩
  · exact h t ht c hc
  · exact hs c hc
theorem hex_so (w c : Nat) : ∀ k, k ∈ List.replicate (w - ((Nat.toDigits 16 c).map Char.toNat).length) 48 ++ (Nat.toDigits 16 c).map Char.toNat → k < 0x110000 := by
  intro k hk
  rcases List.mem_append.mp hk with h | h
  · have := List.eq_of_mem_replicate h
    omega
  · obtain ⟨ch, _, rfl⟩ := List.mem_map.mp h
    have := ch.valid
    have e : ch.toNat = ch.val.toNat := rfl
    rcases this with h | ⟨_, h⟩
    · have h' : ch.val.toNat < 0xd800 := h
      omega
    · have h' : ch.val.toNat < 0x110000 := h
      omega
theorem reprChar_so {q c : Nat} (hc : c < 0x110000) : ∀ k, k ∈ Builtin.Str.reprChar q c → k < 0x110000 := by
  intro k hk
  have h8 := hex_so 8 c k
  have h4 := hex_so 4 c k
  have h2 := hex_so 2 c k
  unfold Builtin.Str.reprChar at hk
  dsimp only at hk
  repeat' split at hk
  all_goals first
    | (rcases List.mem_append.mp hk with hk | hk
       · (simp only [List.mem_cons, List.not_mem_nil, or_false] at hk; omega)
       · first | exact h2 hk | exact h4 hk | exact h8 hk)
    | (simp only [List.mem_cons, List.not_mem_nil, or_false] at hk; omega)
theorem fold_so {q : Nat} : ∀ (l : List Nat) (acc : Array Nat), (∀ c, c ∈ l → c < 0x110000) → (∀ c, c ∈ acc.toList → c < 0x110000) → ∀ c, c ∈ (l.foldl (fun out c => out ++ (Builtin.Str.reprChar q c).toArray) acc).toList → c < 0x110000
  | [], acc, _, h => h
  | d :: r, acc, hl, h => by
    rw [List.foldl_cons]
    refine fold_so r _ (fun c hc => hl c (List.mem_cons_of_mem _ hc)) fun c hc => ?_
    rw [Array.toList_append, List.mem_append] at hc
    rcases hc with hc | hc
    · exact h c hc
    · exact reprChar_so (hl d List.mem_cons_self) c (by simpa using hc)
theorem repr_so {x : Str} (h : SO x) : SO (reprText x) := fun c hc => by
  have hq : reprQuote x < 0x110000 := by
    unfold reprQuote
    split <;> decide
  unfold reprText at hc
  have hc' : c ∈ ((x.cps.foldl (fun out c => out ++ (Builtin.Str.reprChar (reprQuote x) c).toArray) #[reprQuote x]).push (reprQuote x)).toList := hc
  rw [Array.toList_push, List.mem_append] at hc'
  rcases hc' with hc' | hc'
  · rw [← Array.foldl_toList] at hc'
    refine fold_so x.cps.toList _ h (fun c hc => ?_) c hc'
    have : c = reprQuote x := by simpa using hc
    rw [this]
    exact hq
  · have : c = reprQuote x := by simpa using hc'
    rw [this]
    exact hq
mutual
theorem shown_so : ∀ d : PyData, d.canLay0 = true → SO d.shown
  | .none, _ => by rw [PyData.shown_none]; decide
  | .bool b, _ => by
    rw [PyData.shown_bool]
    cases b <;> decide
  | .int i, _ => fun c hc => by
    by_cases h : 57 < c
    · exact absurd hc (shown_int_free' (k := c) ⟨by omega, .inr h⟩ i)
    · omega
  | .str x, h => by
    rw [PyData.shown_str]
    exact repr_so (so_iff.mp (by simpa [PyData.canLay0] using h))
  | .list xs, h => by
    rw [PyData.shown_list]
    exact so_append (so_append (by decide) (so_join (by decide) (shownAll_so xs (by simpa [PyData.canLay0] using h)))) (by decide)
  | .tuple xs, h => by
    rw [PyData.shown_tuple]
    refine so_append (so_append (by decide) (so_join (by decide) (shownAll_so xs (by simpa [PyData.canLay0] using h)))) ?_
    split <;> decide
  | .dict _, h => by simp [PyData.canLay0] at h
theorem shownAll_so : ∀ xs : List PyData, PyData.canLayAll0 xs = true → ∀ t, t ∈ PyData.shownAll xs → SO t
  | [], _, t, ht => by rw [PyData.shownAll_nil] at ht; exact absurd ht (by simp)
  | x :: xs, h, t, ht => by
    have h' : x.canLay0 = true ∧ PyData.canLayAll0 xs = true := by simpa [PyData.canLayAll0] using h
    rw [PyData.shownAll_cons, List.mem_cons] at ht
    rcases ht with rfl | ht
    · exact shown_so x h'.1
    · exact shownAll_so xs h'.2 t ht
end
theorem shown_ok {d : PyData} (h : d.canLay0 = true) : PyData.strOk d.shown = true := so_iff.mpr (shown_so d h)
section
variable {X : Cx} {pins : List (Addr × Obj)} {σ : L2.St} {H : Hp} {s : Shared}
/-- repr of a truth -/
def rReprB : List V → Hp → VK → Prop := fun xs H Q => ∃ b, xs = [.bl b] ∧ Q (.str (PyData.bool b).shown) H
theorem call_reprB : CallR X (.builtin "repr") rReprB := by
  intro pins s σ H xs us Q I r h
  obtain ⟨b, rfl, q⟩ := h
  obtain ⟨u, rfl, rv⟩ := vals1 r
  obtain rfl : u = Value.bool b := rv
  rw [PyData.shown_bool] at q
  exact P.repr_of_bool ⟨.str _, H, I.kept fun _ _ e => e, ⟨_, rfl⟩, q⟩
end
end GR

namespace K7
open PySem PySem.Spec PyProof.Rows L2 GR
/-! ### data of tuples, texts and ints -/
/-! ### how long a text is -/
def sl (d : PyData) : Nat := d.shown.length
def sls : List PyData → Nat
  | [] => 0
  | d :: ds => sl d + 2 + sls ds
theorem sls_eq : ∀ ds : List PyData, ((PyData.shownAll ds).map (·.length)).sum + 2 * ds.length = sls ds
  | [] => by simp only [PyData.shownAll, List.map_nil, List.sum_nil, List.length_nil, sls]
  | d :: ds => by
    have := sls_eq ds
    simp only [PyData.shownAll, List.map_cons, List.sum_cons, List.length_cons, sls, sl]
    omega
theorem sl_tup (ds : List PyData) : sl (.tuple ds) ≤ sls ds + 3 := by
  have h1 := tupleText_len_le (PyData.shownAll ds)
  have h2 := sls_eq ds
  rw [PyData.shownAll_length] at h1
  unfold sl
  simp only [PyData.shown]
  omega
/-! ### what is drawn -/
end K7

namespace K7
open PySem PySem.Spec PyProof.Rows L2 GR
/-! ### expressions by their form (a let only where the sign + is told among the names): names of tables and columns among zs, variables among sc, a key only where b -/
abbrev ops5 : List Str := ["+", "-", "*", "<", "="]
end K7

/-! == of a tuple, of a list, whatever they hold, with the empty one -/
namespace ZE
open PySem PySem.Spec PyProof.Rows L2 GR
def rT0 (K : PySem.W.Frag) : R2 := fun x y H Q => ∃ (a b : Addr) (xs : List V), x = .ref a ∧ y = .ref b ∧ SqT K H a xs ∧ SqT K H b [] ∧ Q (.bl xs.isEmpty) H
def rL0 (K : PySem.W.Frag) : R2 := fun x y H Q => ∃ (a b : Addr) (xs : List V), x = .ref a ∧ y = .ref b ∧ SqL K H a xs ∧ SqL K H b [] ∧ Q (.bl xs.isEmpty) H
section
variable {X : Cx}
theorem empty_size {its : List Value} {xs : List V} (r : Vals xs its) : (its.toArray.size == 0) = xs.isEmpty := by
  cases r <;> rfl
theorem op_eqT0 (hu : X.A.units < cLine) : OpR X (compareOp .Eq) (rT0 X.K) := by
  intro pins s σ H x y v u Q I rx ry h
  obtain ⟨a, b, xs, rfl, rfl, ha, hb, q⟩ := h
  cases rx
  cases ry
  obtain ⟨its, rv, pt, hz⟩ := I.tuple ha
  obtain ⟨its2, rv2, pt2, hz2⟩ := I.tuple hb
  cases rv2
  refine SeqAt.eq_tupleAt (e := fun _ => true) pt pt2 hu (fun j h1 h2 => absurd h2 (Nat.not_lt_zero _)) ?_
  refine ⟨.bl xs.isEmpty, H, I, ?_, q⟩
  show Value.bool _ = Value.bool _
  rw [← empty_size rv]
  simp
theorem op_eqL0 (hu : X.A.units < cLine) : OpR X (compareOp .Eq) (rL0 X.K) := by
  intro pins s σ H x y v u Q I rx ry h
  obtain ⟨a, b, xs, rfl, rfl, ha, hb, q⟩ := h
  cases rx
  cases ry
  obtain ⟨its, rv, pl, hz⟩ := I.list ha
  obtain ⟨its2, rv2, pl2, hz2⟩ := I.list hb
  cases rv2
  cases rv with
  | nil => exact SeqAt.eq_listAt (e := fun _ => true) pl.isList pl2.isList rfl hu (fun j h1 h2 => absurd h2 (Nat.not_lt_zero _)) ⟨.bl true, H, I, rfl, q⟩
  | cons r t => exact SeqAt.eq_list_lengthsAt pl.isList pl2.isList (by simp) hu ⟨.bl false, H, I, rfl, q⟩
end
end ZE

/-! != of a list, whatever it holds, with the empty one -/
namespace ZE
open PySem PySem.Spec PyProof.Rows L2 GR
def rNL0 (K : PySem.W.Frag) : R2 := fun x y H Q => ∃ (a b : Addr) (xs : List V), x = .ref a ∧ y = .ref b ∧ SqL K H a xs ∧ SqL K H b [] ∧ Q (.bl (!xs.isEmpty)) H
section
variable {X : Cx}
theorem op_neL0 (hu : X.A.units < cLine) : OpR X (compareOp .NotEq) (rNL0 X.K) := by
  intro pins s σ H x y v u Q I rx ry h
  obtain ⟨a, b, xs, rfl, rfl, ha, hb, q⟩ := h
  cases rx
  cases ry
  obtain ⟨its, rv, pl, hz⟩ := I.list ha
  obtain ⟨its2, rv2, pl2, hz2⟩ := I.list hb
  cases rv2
  cases rv with
  | nil => exact SeqAt.RcNeAt.lists (e := fun _ => true) pl.isList pl2.isList rfl hu (fun j h1 h2 => absurd h2 (Nat.not_lt_zero _)) _ _ _ _ ⟨.bl false, H, I, rfl, q⟩
  | cons r t => exact SeqAt.RcNeAt.lists_lengths pl.isList pl2.isList (by simp) hu _ _ _ _ ⟨.bl true, H, I, rfl, q⟩
end
end ZE

namespace K7
open PySem PySem.Spec PyProof.Rows L2 GR
/-- how many draws, how long -/
def dx : Nat → Int
  | 0 => 10
  | n + 1 => 30 + 6 * dx n
theorem small1000 {n : Nat} (h : n ≤ 1000) : n < sizeLine := by
  have : sizeLine = 16777216 := by decide
  omega
section
variable {P : Program} {w : World} {K : PySem.W.Frag} {mg : Str → Option Value} {base : Heap}
end
end K7

namespace K7
open PySem PySem.Spec PyProof.Rows L2 GR
section
variable {P : Program} {w : World} {K : PySem.W.Frag} {mg : Str → Option Value} {base : Heap}
end
end K7

namespace K7
open PySem PySem.Spec PyProof.Rows L2 GR
section
variable {P : Program} {w : World} {K : PySem.W.Frag} {mg : Str → Option Value} {base : Heap}
end
end K7

namespace K7
open PySem PySem.Spec PyProof.Rows L2 GR
section
variable {P : Program} {w : World} {K : PySem.W.Frag} {mg : Str → Option Value} {base : Heap}
/-! ### statements -/
theorem in_strs (z : Str) (W : List Str) : inV (.str z) (W.map V.str) = decide (z ∈ W) := by
  unfold inV
  rw [List.any_map, Bool.eq_iff_iff, List.any_eq_true, decide_eq_true_eq]
  constructor
  · rintro ⟨f, hf, e⟩
    have : z = f := by
      have e' : eqV (.str f) (.str z) = true := e
      simp [eqV] at e'
      exact e'.symm
    rw [this]
    exact hf
  · intro h
    exact ⟨z, h, by show eqV (.str z) (.str z) = true; simp [eqV]⟩
end
end K7

namespace K7
open PySem PySem.Spec PyProof.Rows L2 GR
section
variable {P : Program} {w : World} {K : PySem.W.Frag} {mg : Str → Option Value} {base : Heap}
end
end K7

namespace WX
open PySem PySem.Spec PySem.AutoSeq1
theorem ext_tup (l : Addr) (items : Array Value) (n : Nat) (b : Addr) (items2 : Array Value) (n2 : Nat) (dd : Option Addr) (sl : Array (Option Value)) (hs0 : ¬(!items.isEmpty && Builtin.List.listTooLong (items.size + items2.size)) = true) (hs1 : items.size ≤ sizeLine) (hs2 : items.size + items2.size ≤ sizeLine + 1) :
    Meets (Builtin.«list.extend» ⟨[.ref l, .ref b], []⟩) (fun _ R s => s.heap.get? l = some { cls := .type "list", dict := none, data := .seq items n, slots := #[] } ∧ s.heap.get? b = some { cls := .type "tuple", dict := dd, data := .seq items2 n2, slots := sl } ∧ R (.ok (.ret Value.none)) { s with heap := s.heap.update l (Obj.mapSeq fun x => x ++ items2), toks := s.toks }) := by
  refine .of_wp fun prog w A R s h => ?_
  obtain ⟨hp, g, d, tk, os⟩ := s
  obtain ⟨hl, hb, h⟩ := h
  have f1 := idx_int
  have f2 := sub_tuple_tuple
  have f3 := sub_list_list
  have f4 := sub_tuple_list
  have f5 := sub_list_tuple
  have hz' : (items ++ items2).size ≤ sizeLine + 1 := by
    rw [Array.size_append]
    exact hs2
  wp_walk using (wpAny_updateSeq hl rfl (hz := hs1) (_hz' := hz')), wpAny_loadPart' hl, wpAny_loadPart' hb
  exact ⟨_, rfl, h⟩
end WX

/-! Words that the hand layer lacks: a list extended by a tuple. -/
namespace WX
open PySem PySem.Spec PyProof.Rows L2
def rExtendT (K : PySem.W.Frag) : V → List V → Hp → VK → Prop := fun x vs H Q => ∃ (l b : Addr) (xs zs : List V), x = .ref l ∧ vs = [.ref b] ∧ H l = some (.lst xs) ∧ SqT K H b zs ∧ xs.length + zs.length ≤ sizeLine ∧ Q .non (upd H l (.lst (xs ++ zs)))
section
variable {X : Cx}
theorem mt_extendT : MtM X "list.extend" (rExtendT X.K) := by
  intro pins s σ H x vs v us Q I rx rv h
  obtain ⟨l, b, xs, zs, rfl, rfl, hH, hB, hz, q⟩ := h
  cases rx
  obtain ⟨u, rfl, ru⟩ := rv.one
  cases ru
  obtain ⟨z, its, n, r, hl, e⟩ := I.lstM hH
  obtain ⟨its2, r2, ⟨⟨c2, d2, dat2, sl2⟩, g2, hc2, n2, hd2⟩, z2⟩ := I.tuple hB
  have hc2 : c2 = .type "tuple" := hc2
  have hd2 : dat2 = .seq its2.toArray n2 := hd2
  subst hc2
  subst hd2
  have hl2 := r2.length
  have small : its.toArray.size + its2.toArray.size ≤ sizeLine := by
    rw [List.size_toArray, List.size_toArray]
    omega
  have short : ¬ (!its.toArray.isEmpty && Builtin.List.listTooLong (its.toArray.size + its2.toArray.size)) = true := by
    rw [notLongL small, Bool.and_false]
    exact Bool.false_ne_true
  refine call_meets F.slot_list_extend ⟨_, e, rfl⟩ F.entry_list_extend (F.args_list_extend_2 _ _)
    (ext_tup l its.toArray n b its2.toArray n2 d2 sl2 short (by rw [List.size_toArray]; omega) (by omega)) ⟨e, g2, ?_⟩
  refine ⟨.non, _, I.lset (its' := its ++ its2) hH e (by simp) (r.append r2) ?_, rfl, q⟩
  rw [List.length_append]
  omega
/-- a list extended by a list or by a tuple -/
def rExtendA (K : PySem.W.Frag) : V → List V → Hp → VK → Prop := fun x vs H Q => rExtend x vs H Q ∨ rExtendT K x vs H Q
theorem mt_extendA : MtM X "list.extend" (rExtendA X.K) := by
  intro pins s σ H x vs v us Q I rx rv h
  rcases h with h | h
  · exact mt_extend pins s σ H x vs v us Q I rx rv h
  · exact mt_extendT pins s σ H x vs v us Q I rx rv h
end
end WX

/-! Words that the hand layer lacks: a call by place of a def with a star; max(list of ints, default=); frozen tuples; dict(tuple of pairs). -/
namespace SC
open PySem PySem.Spec PyProof.Rows L2
section
variable {X : Cx} {CX : CXT} {k : Nat} {f : Addr} {sp : Sp} {E : XK} {x : Str} {e : Expr} {es : List Expr} {t : TA} {p pos : Pos}
theorem pe_callR (F : FnR X.prog X.w X.K X.mg X.base CX k f sp) (hr : Room k X.A) (hg : Gl X x) (hm : X.mg x = some (.ref f)) (hk : PySem.W.keepIn X.K (.ref f) = true) (hx : Passes CX X E)
    (ha : PA X (e :: es) t) (hdb : (x == ("__debug__" : Str)) = false := by decide) (he : starEach (e :: es) X.env = (false, eval e X.env) :: starEach es X.env := by rfl) (hpl : (backTo pos (starEach es X.env)).any (·.1) = false := by rfl) :
    PE X (.Call (.Name x p) (e :: es) [] pos) (tCall sp [] E t) := by
  refine ⟨fun pins s σ H Q I h => ?_⟩
  refine wpAny_Call_Name_kw (ld_glob I hg hm ?_ hdb)
  refine PySem.W.callWith_K (h₀ := X.base) I.ok.mod.kin hk (thn (ha.run pos pins s σ H _ I h) fun us s1 ⟨vs, H1, I1, r, q⟩ => ⟨I1.kIn, ?_⟩) he hpl
  have q : sp (vs ++ []) H1 Q E := q
  rw [List.append_nil] at q
  exact wpAny_call (run_fnR F hr hx I1 r q)
theorem pe_callR0 (F : FnR X.prog X.w X.K X.mg X.base CX k f sp) (hr : Room k X.A) (hg : Gl X x) (hm : X.mg x = some (.ref f)) (hk : PySem.W.keepIn X.K (.ref f) = true) (hx : Passes CX X E)
    (hdb : (x == ("__debug__" : Str)) = false := by decide) : PE X (.Call (.Name x p) [] [] pos) (tCall sp [] E tNil) := by
  refine ⟨fun pins s σ H Q I h => ?_⟩
  refine wpAny_Call_Name_kw (ld_glob I hg hm ?_ hdb)
  exact PySem.W.callWith_K0 I.kIn hk (wpAny_call (run_fnR (us := []) F hr hx I .nil h))
end
/-! ### max of a list of ints, with a default -/
def rMaxI (K : PySem.W.Frag) : List V → List V → Hp → VK → Prop := fun vs zs H Q => ∃ (a : Addr) (ns : List Int) (d : V), vs = [.ref a] ∧ zs = [d] ∧ SqL K H a (ns.map V.int) ∧ ns ≠ [] ∧ ∀ n, n ∈ ns → (∀ m, m ∈ ns → m ≤ n) → Q (.int n) H
theorem holdAll_ints {h : Heap} : ∀ {ns : List Int} {us : List Value}, Vals (ns.map V.int) us → PySem.W.HoldAll h us ns
  | [], us, r => by
    rw [List.map_nil] at r
    cases r
    exact ⟨[], .nil⟩
  | n :: ns, us, r => by
    rw [List.map_cons] at r
    cases r with
    | cons a b =>
      obtain ⟨t, rfl⟩ := a
      obtain ⟨as, ih⟩ := holdAll_ints b
      exact ⟨_, .cons (.int n t) ih⟩
theorem maxI_ge : ∀ (xs : List Int) (x : Int), x ≤ PySem.W.maxOf x xs ∧ ∀ y, y ∈ xs → y ≤ PySem.W.maxOf x xs
  | [], x => ⟨Int.le_refl _, fun y h => nomatch h⟩
  | z :: xs, x => by
    have e : PySem.W.maxOf x (z :: xs) = PySem.W.maxOf (if x < z then z else x) xs := by
      show List.foldl _ _ xs = List.foldl _ _ xs
      congr 1
      show (if decide (x < z) = true then z else x) = _
      by_cases h : x < z
      · rw [if_pos h, if_pos (decide_eq_true h)]
      · rw [if_neg h, if_neg (by simpa using h)]
    obtain ⟨h1, h2⟩ := maxI_ge xs (if x < z then z else x)
    rw [e]
    refine ⟨Int.le_trans ?_ h1, fun y hy => ?_⟩
    · split <;> omega
    · rcases List.mem_cons.mp hy with rfl | hy
      · exact Int.le_trans (by split <;> omega) h1
      · exact h2 y hy
section
variable {X : Cx}
theorem cr_maxD (hc : X.calm = true) (hu : X.A.units + 1 + 0 < cLine) : CallRK X (.builtin "max") [Str.ofString "default"] (rMaxI X.K) := by
  intro pins s σ H vs zs us ws Q I r rz h
  obtain ⟨a, ns, d, rfl, rfl, hs, h0, q⟩ := h
  obtain rfl := Vals.ref1 r
  obtain ⟨w1, rfl, e1⟩ := vals1 rz
  obtain ⟨its, rv, hl, hz⟩ := I.list hs
  refine PySem.W.max_list_datum_default (α := Int) (I.ok.hd hc) hl.isList (holdAll_ints (by simpa using rv)) hu (fun z => absurd z h0) fun y ys i v h' tk e hi hv hk => ?_
  subst e
  obtain ⟨as, hv⟩ := hv
  obtain ⟨t, rfl, _⟩ := PyProof.Rows.reads_int_inv hv
  have hm : PySem.W.maxOf y ys ∈ y :: ys := by
    have hi' : its[i]? = some (.int (PySem.W.maxOf y ys) t) := by simpa using hi
    have hlt : i < its.length := (List.getElem?_eq_some_iff.mp hi').1
    rw [← rv.length, List.length_map] at hlt
    obtain ⟨u, g1, g2⟩ := rv.get (show ((y :: ys).map V.int)[i]? = some (V.int ((y :: ys)[i])) by rw [List.getElem?_map, List.getElem?_eq_getElem hlt]; rfl)
    rw [hi'] at g1
    cases g1
    obtain ⟨t', e'⟩ := g2
    have e2 : PySem.W.maxOf y ys = (y :: ys)[i] := by injection e'
    rw [e2]
    exact List.getElem_mem hlt
  have hg := maxI_ge ys y
  exact ⟨.int _, H, I.kept (t' := tk) hk, ⟨t, rfl⟩, q _ hm fun m hm' => by
    rcases List.mem_cons.mp hm' with rfl | hm'
    · exact hg.1
    · exact hg.2 m hm'⟩
end
/-! ### tuples whose objects are known; dict of such -/
/-- a tuple of which it is known that its object holds no dict -/
def TupF (H : Hp) (a : Addr) (xs : List V) : Prop := ∃ o : Obj, H a = some (.frz o (.tup xs)) ∧ o.dict = none
theorem TupF.sq {K : PySem.W.Frag} {H : Hp} {a : Addr} {xs : List V} (h : TupF H a xs) : SqT K H a xs := let ⟨o, e, _⟩ := h; .inl (.inr ⟨o, e⟩)
section
variable {X : Cx}
theorem call_tupleF : CallR X (.type "tuple") (fun xs H Q => ∃ p ys, xs = [.ref p] ∧ SqL X.K H p ys ∧ ∀ l o, o.dict = none → H l = none → Q (.ref l) (upd H l (.frz o (.tup ys)))) := by
  intro pins s σ H xs us Q I r h
  obtain ⟨p, ys, rfl, hq, q⟩ := h
  obtain ⟨u, rfl, rx⟩ := vals1 r
  cases rx
  obtain ⟨its, r', pl, hz⟩ := I.list hq
  have hlen := r'.length
  refine call_tuple_list pl.isList (fun h' kp => ?_) (by simp only [List.size_toArray] <;> omega)
  have I1 : Inv X pins σ H { s with heap := h' } := I.kept (t' := s.toks) kp
  have I2 : Inv X pins σ (upd H h'.objs.size (.frz { cls := .type "tuple", data := .seq its.toArray } (.tup ys))) { s with heap := h'.push { cls := .type "tuple", data := .seq its.toArray } } :=
    I1.laid (t' := s.toks) (fun b o e => Heap.get?_push_of_some _ e) (Nat.le_refl _) (show ObjOk X.prog X.w _ _ _ (.frz _ (.tup ys)) from ⟨Heap.get?_push_size _ rfl, hz, its, r', IsTup.new _ _⟩)
  exact ⟨.ref h'.objs.size, _, I2, rfl, q _ _ rfl (I1.hok.fresh (Nat.le_refl _))⟩
theorem pairs_of2 {pins : List (Addr × Obj)} {σ : L2.St} {H : Hp} {s : Shared} (I : Inv X pins σ H s) : ∀ {ps : List Addr} {kvs : List (Key × V)}, Paired (fun p kv => SqT X.K H p [kV kv.1, kv.2]) ps kvs →
    ∃ (prs : List (Key × Value)) (qs : List (Value × Value)), KV kvs prs ∧ prs.length = ps.length ∧ qs.length = ps.length ∧
      (∀ (j : Nat) (u v : Value), qs[j]? = some (u, v) → ∃ (b : Addr) (k : Key), ps[j]? = some b ∧ prs[j]? = some (k, v) ∧ IsTup s.heap b #[u, v] ∧ keyIs k u = true)
  | _, _, .nil => ⟨[], [], .nil, rfl, rfl, fun j u v e => by simp at e⟩
  | _, _, .cons (a := p) (b := kv) h t => by
    obtain ⟨prs, qs, r, hl, hl2, hp⟩ := pairs_of2 I t
    obtain ⟨its, rv, ht, _⟩ := I.tuple h
    obtain ⟨u, y, ei, ru, ry⟩ := vals2 rv
    subst ei
    refine ⟨(kv.1, y) :: prs, (u, y) :: qs, .cons ⟨rfl, ry⟩ r, by rw [List.length_cons, List.length_cons, hl], by rw [List.length_cons, List.length_cons, hl2], fun j u' v' e => ?_⟩
    cases j with
    | zero =>
      have e' : (u, y) = (u', v') := Option.some.inj e
      cases e'
      exact ⟨p, kv.1, rfl, rfl, ht, kV_is (P := X.prog) (w := X.w) ru⟩
    | succ j =>
      obtain ⟨b, k, e1, e2, e3, e4⟩ := hp j u' v' (by simpa using e)
      exact ⟨b, k, by simpa using e1, by simpa using e2, e3, e4⟩
theorem call_dictT (hcalm : X.calm = true) : CallR X (.type "dict") (fun xs H Q => ∃ (a : Addr) (ps : List Addr) (kvs : List (Key × V)), xs = [.ref a] ∧ TupF H a (ps.map V.ref) ∧ Paired (fun p kv => SqT X.K H p [kV kv.1, kv.2]) ps kvs ∧
    ∀ p, H p = none → Q (.ref p) (upd H p (.dK (mergeK [] kvs)))) := by
  intro pins s σ H xs us Q I r q
  obtain ⟨a, ps, kvs, ex, ⟨o, hq, hdn⟩, hp, q⟩ := q
  subst ex
  obtain ⟨u, eu, rx⟩ := vals1 r
  subst eu
  cases rx
  obtain ⟨ho, hz, its, rv, o', ho', hc, n, hdat⟩ := I.hok _ _ hq
  rw [ho] at ho'
  cases ho'
  have ei := refs_at rv
  subst ei
  rw [List.length_map] at hz
  obtain ⟨prs, qs, rel, hl, hl2, hpr⟩ := pairs_of2 I hp
  refine PySem.call_dict_pairs (knd := mixKind X.prog X.w) (kvs := prs) (PySem.PairArg.tuple a (ps.map Value.ref).toArray (fun j => ps.getD j 0) qs) (I.ok.hd hcalm) ⟨⟨o, n, ho, hc, hdn, hdat⟩, by simp [hl2], fun j k v e => ?_⟩ ⟨by rw [hl, hl2], fun i key v e => ?_⟩ (by rw [hl2]; exact hz) fun h' tk hd' k => ?_
  · obtain ⟨b, k', e1, e2, e3, e4⟩ := hpr j k v e
    have eb : ps.getD j 0 = b := by rw [List.getD_eq_getElem?_getD, e1]; rfl
    show _ ∧ PySem.PairAt s.heap (ps.getD j 0) k v
    rw [eb]
    exact ⟨by simp [e1], .inl e3⟩
  · obtain ⟨b, k', e1, e2, e3, e4⟩ := hpr i key v e
    exact ⟨k', e2, e4⟩
  · have hm : (s.heap.objs.size == sysModules) = false := beq_eq_false_iff_ne.mpr (Nat.ne_of_gt I.big)
    have hlen : (mergeK [] kvs).length ≤ sizeLine := by
      refine Nat.le_trans (length_mergeK kvs []) ?_
      rw [List.length_nil, Nat.zero_add, rel.length, hl]
      exact hz
    exact ⟨.ref s.heap.objs.size, upd H s.heap.objs.size (.dK (mergeK [] kvs)), I.laid (t' := tk) (fun b ob e => k b ob (fun z => nomatch z) e) (Nat.le_refl _) (show ObjOk X.prog X.w _ _ _ (.dK (mergeK [] kvs)) from ⟨hlen, hm, merged [] prs, KV.merge rel .nil, hd'⟩), rfl, q _ (I.hok.fresh (Nat.le_refl _))⟩
end
end SC

namespace K7
open PySem PySem.Spec PyProof.Rows L2 GR
end K7

namespace K7
open PySem PySem.Spec PyProof.Rows L2 GR
end K7
namespace K7
open PySem PySem.Spec PyProof.Rows L2 GR
end K7

/-! Data of all kinds, dicts too, in the abstract heap; ok tells which addresses its lists and dicts may have. -/
namespace AD
open PySem PySem.Spec PyProof.Rows L2 GR
def keyD : Key → PyData
  | .inl i => .int i
  | .inr x => .str x
mutual
inductive Dd (K : PySem.W.Frag) (ok : Addr → Prop) (H : Hp) : V → PyData → Prop
  | non : Dd K ok H .non .none
  | bl (b : Bool) : Dd K ok H (.bl b) (.bool b)
  | int (i : Int) : Dd K ok H (.int i) (.int i)
  | str (x : Str) : Dd K ok H (.str x) (.str x)
  | lst {a : Addr} {xs : List V} {ds : List PyData} : H a = some (.lst xs) → ok a → DdAll K ok H xs ds → Dd K ok H (.ref a) (.list ds)
  | tup {a : Addr} {xs : List V} {ds : List PyData} : SqT K H a xs → DdAll K ok H xs ds → Dd K ok H (.ref a) (.tuple ds)
  | dk {a : Addr} {kvs : List (Key × V)} {ds : List PyData} : H a = some (.dK kvs) → ok a → DdAll K ok H (kvs.map (·.2)) ds → Dd K ok H (.ref a) (.dict ((kvs.map fun p => keyD p.1).zip ds))
inductive DdAll (K : PySem.W.Frag) (ok : Addr → Prop) (H : Hp) : List V → List PyData → Prop
  | nil : DdAll K ok H [] []
  | cons {v : V} {vs : List V} {d : PyData} {ds : List PyData} : Dd K ok H v d → DdAll K ok H vs ds → DdAll K ok H (v :: vs) (d :: ds)
end
/-- tuples stay, and what lies where ok allows it -/
structure KeepO (ok : Addr → Prop) (H H' : Hp) : Prop where
  tup : ∀ b xs, H b = some (.tup xs) → H' b = some (.tup xs)
  frz : ∀ b o xs, H b = some (.frz o (.tup xs)) → H' b = some (.frz o (.tup xs))
  oth : ∀ b o, ok b → H b = some o → H' b = some o
theorem KeepO.of {ok : Addr → Prop} {H H' : Hp} (s : Same H H') : KeepO ok H H' := ⟨fun b _ e => s b _ e, fun b _ _ e => s b _ e, fun b _ _ e => s b _ e⟩
theorem KeepO.trans {ok : Addr → Prop} {H H1 H2 : Hp} (a : KeepO ok H H1) (b : KeepO ok H1 H2) : KeepO ok H H2 := ⟨fun x _ e => b.tup x _ (a.tup x _ e), fun x _ _ e => b.frz x _ _ (a.frz x _ _ e), fun x o h e => b.oth x o h (a.oth x o h e)⟩
theorem KeepO.seqt {ok : Addr → Prop} {K : PySem.W.Frag} {H H' : Hp} (s : KeepO ok H H') {a : Addr} {xs : List V} (h : SqT K H a xs) : SqT K H' a xs := by
  rcases h with (h | ⟨o, h⟩) | h
  · exact .inl (.inl (s.tup _ _ h))
  · exact .inl (.inr ⟨o, s.frz _ _ _ h⟩)
  · exact .inr h
section
variable {K : PySem.W.Frag} {ok ok' : Addr → Prop} {H H' : Hp}
mutual
theorem Dd.keep (k : KeepO ok H H') : ∀ {v : V} {d : PyData}, Dd K ok H v d → Dd K ok H' v d
  | _, _, .non => .non
  | _, _, .bl b => .bl b
  | _, _, .int i => .int i
  | _, _, .str x => .str x
  | _, _, .lst h o q => .lst (k.oth _ _ o h) o (DdAll.keep k q)
  | _, _, .tup h q => .tup (k.seqt h) (DdAll.keep k q)
  | _, _, .dk h o q => .dk (k.oth _ _ o h) o (DdAll.keep k q)
theorem DdAll.keep (k : KeepO ok H H') : ∀ {vs : List V} {ds : List PyData}, DdAll K ok H vs ds → DdAll K ok H' vs ds
  | _, _, .nil => .nil
  | _, _, .cons h q => .cons (Dd.keep k h) (DdAll.keep k q)
end
mutual
theorem Dd.mono (k : ∀ a, ok a → ok' a) : ∀ {v : V} {d : PyData}, Dd K ok H v d → Dd K ok' H v d
  | _, _, .non => .non
  | _, _, .bl b => .bl b
  | _, _, .int i => .int i
  | _, _, .str x => .str x
  | _, _, .lst h o q => .lst h (k _ o) (DdAll.mono k q)
  | _, _, .tup h q => .tup h (DdAll.mono k q)
  | _, _, .dk h o q => .dk h (k _ o) (DdAll.mono k q)
theorem DdAll.mono (k : ∀ a, ok a → ok' a) : ∀ {vs : List V} {ds : List PyData}, DdAll K ok H vs ds → DdAll K ok' H vs ds
  | _, _, .nil => .nil
  | _, _, .cons h q => .cons (Dd.mono k h) (DdAll.mono k q)
end
theorem DdAll.len : ∀ {vs : List V} {ds : List PyData}, DdAll K ok H vs ds → vs.length = ds.length
  | _, _, .nil => rfl
  | _, _, .cons _ q => by rw [List.length_cons, List.length_cons, DdAll.len q]
end
/-- the entries of a dict, its keys read -/
theorem keys_read {P : Program} {w : World} {h : Heap} {es : List DictEntry} {vs : List (Key × Value)} (p : PySem.Pairs (mixKind P w) es vs) : ReadsAll h (es.map (·.key)) (vs.map fun q => keyD q.1) [] := by
  induction p with
  | nil => exact .nil
  | @cons e kv es kvs h1 _ _ ih =>
    rw [List.map_cons, List.map_cons]
    rcases keyIs_shape h1 with ⟨i, t, e1, e2⟩ | ⟨x, t, e1, e2⟩
    · rw [e1, e2]
      exact .cons (.int i t) ih
    · rw [e1, e2]
      exact .cons (.str x t) ih
theorem pairs_val {P : Program} {w : World} {es : List DictEntry} {vs : List (Key × Value)} (p : PySem.Pairs (mixKind P w) es vs) : es.map (·.val) = vs.map (·.2) := by
  induction p with
  | nil => rfl
  | cons _ h2 _ ih => rw [List.map_cons, List.map_cons, h2, ih]
theorem kv_keys {kvs : List (Key × V)} {vs : List (Key × Value)} (r : KV kvs vs) : vs.map (fun q => keyD q.1) = kvs.map fun q => keyD q.1 := by
  induction r with
  | nil => rfl
  | cons h _ ih => rw [List.map_cons, List.map_cons, ih, h.1]
theorem kv_vals {kvs : List (Key × V)} {vs : List (Key × Value)} (r : KV kvs vs) : Vals (kvs.map (·.2)) (vs.map (·.2)) := by
  induction r with
  | nil => exact .nil
  | cons h _ ih => exact .cons h.2 ih
section
variable {X : Cx} {pins : List (Addr × Obj)} {σ : L2.St} {H : Hp} {s : Shared} {ok : Addr → Prop}
mutual
theorem Dd.reads (I : Inv X pins σ H s) (hok : ∀ a, ok a → a ≠ sysModules) : ∀ {v : V} {d : PyData}, Dd X.K ok H v d → ∀ u, RelV v u → ∃ as, Reads s.heap u d as ∧ sysModules ∉ as
  | _, _, .non, _, r => by
    cases r
    exact ⟨_, .none, List.not_mem_nil⟩
  | _, _, .bl b, _, r => by
    cases r
    exact ⟨_, .bool b, List.not_mem_nil⟩
  | _, _, .int i, _, r => by
    obtain ⟨t, rfl⟩ := r
    exact ⟨_, .int i t, List.not_mem_nil⟩
  | _, _, .str x, _, r => by
    obtain ⟨t, rfl⟩ := r
    exact ⟨_, .str x t, List.not_mem_nil⟩
  | _, _, .lst hs o q, _, r => by
    cases r
    obtain ⟨its, rv, ⟨ob, n, ho, hc, _, hd⟩, _⟩ := I.list (.inl (.inl hs))
    obtain ⟨as, hr, hn⟩ := DdAll.reads I hok q its rv
    exact ⟨_, .list ho hc hd hr, fun z => (List.mem_cons.mp z).elim (fun e => hok _ o e.symm) hn⟩
  | _, _, .tup hs q, _, r => by
    cases r
    obtain ⟨its, rv, ⟨ob, ho, hc, n, hd⟩, _⟩ := I.tuple hs
    obtain ⟨as, hr, hn⟩ := DdAll.reads I hok q its rv
    exact ⟨_, .tuple ho hc hd hr, hn⟩
  | _, _, .dk (kvs := kvs) (ds := ds) hs o q, _, r => by
    cases r
    obtain ⟨_, hsys, vs, rk, ob, es, ep, ho, hex, hd, _, hp, _⟩ := I.hok _ _ hs
    obtain ⟨as, hr, hn⟩ := DdAll.reads I hok q _ (kv_vals rk)
    have hk := keys_read (h := s.heap) hp
    have hv := pairs_val hp
    have hl := q.len
    rw [List.length_map] at hl
    rw [kv_keys rk] at hk
    rw [← hv] at hr
    refine ⟨_, .dict (kvs := (kvs.map fun p => keyD p.1).zip ds) ho hex.1 hd (as := []) (bs := as) ?_ ?_, fun z => ?_⟩
    · rw [List.map_fst_zip (by rw [List.length_map]; omega)]
      exact hk
    · rw [List.map_snd_zip (by rw [List.length_map]; omega)]
      exact hr
    · rcases List.mem_append.mp z with z | z
      · exact hok _ o (List.mem_singleton.mp z).symm
      · exact hn z
theorem DdAll.reads (I : Inv X pins σ H s) (hok : ∀ a, ok a → a ≠ sysModules) : ∀ {vs : List V} {ds : List PyData}, DdAll X.K ok H vs ds → ∀ us, Vals vs us → ∃ as, ReadsAll s.heap us ds as ∧ sysModules ∉ as
  | _, _, .nil, _, r => by
    cases r
    exact ⟨_, .nil, List.not_mem_nil⟩
  | _, _, .cons h q, _, r => by
    cases r with
    | cons r1 r2 =>
      obtain ⟨as, q1, n1⟩ := Dd.reads I hok h _ r1
      obtain ⟨bs, q2, n2⟩ := DdAll.reads I hok q _ r2
      exact ⟨_, .cons q1 q2, fun z => (List.mem_append.mp z).elim n1 n2⟩
end
/-- what is shown fits -/
structure Shw (d : PyData) : Prop where
  shw : d.showable = true
  dep : d.depth ≤ 60
  len : d.shown.length ≤ sizeLine
/-- repr of anything -/
def rReprA (X : Cx) : List V → Hp → VK → Prop := fun xs H Q => ∃ (v : V) (d : PyData) (ok : Addr → Prop), xs = [v] ∧ (∀ a, ok a → a ≠ sysModules) ∧ Dd X.K ok H v d ∧ Shw d ∧ Q (.str d.shown) H
theorem call_reprA {k : Nat} (hg : X.A.guards = some []) (hr : Room k X.A) : CallR X (.builtin "repr") (rReprA X) := by
  intro pins s σ H xs us Q I r h
  obtain ⟨v, d, ok, rfl, hok, hd, ⟨h1, h2, h3⟩, q⟩ := h
  obtain ⟨u, rfl, rv⟩ := vals1 r
  obtain ⟨as, hR, hn⟩ := Dd.reads I hok hd u rv
  have hu := hr.units
  have big : ∀ a, u = .ref a → wpAny (model X.prog X.w) X.A (call (.builtin "repr") [.ref a]) (EP X pins σ Q) X.xe s := fun a e => by
    rw [e] at hR
    exact repr_of_reads' hR h1 (fun _ => hn) hg (by omega) (fun _ _ e => e) (fun h' u tk hk => ⟨.str d.shown, H, I.kept hk, ⟨_, rfl⟩, q⟩) h3
  cases hd with
  | non =>
    cases rv
    rw [PyData.shown_none] at q
    exact PySem.P.repr_of_none ⟨.str _, H, I.tok _, ⟨_, rfl⟩, q⟩
  | bl b =>
    cases rv
    rw [PyData.shown_bool] at q
    exact P.repr_of_bool ⟨.str _, H, I.kept fun _ _ e => e, ⟨_, rfl⟩, q⟩
  | int i =>
    obtain ⟨t, rfl⟩ := rv
    rw [PyData.shown_int] at q
    exact PySem.P.repr_of_int (by simpa [PyData.showable] using h1) ⟨.str _, H, I.tok _, ⟨_, rfl⟩, q⟩
  | str x =>
    obtain ⟨t, rfl⟩ := rv
    rw [PyData.shown_str] at q h3
    exact P.repr_of_str ⟨.str _, H, I.tok _, ⟨_, rfl⟩, q⟩ h3
  | lst _ _ _ =>
    cases rv
    exact big _ rfl
  | tup _ _ =>
    cases rv
    exact big _ rfl
  | dk _ _ _ =>
    cases rv
    exact big _ rfl
/-- str of a list, a tuple, a dict -/
def rStrA (X : Cx) : List V → Hp → VK → Prop := fun xs H Q => ∃ (a : Addr) (d : PyData) (ok : Addr → Prop), xs = [.ref a] ∧ (∀ a, ok a → a ≠ sysModules) ∧ Dd X.K ok H (.ref a) d ∧ Shw d ∧ Q (.str d.shown) H
theorem call_strA {k : Nat} (hg : X.A.guards = some []) (hr : Room k X.A) : CallR X (.type "str") (rStrA X) := by
  intro pins s σ H xs us Q I r h
  obtain ⟨a, d, ok, rfl, hok, hd, ⟨h1, h2, h3⟩, q⟩ := h
  obtain ⟨u, rfl, rv⟩ := vals1 r
  obtain rfl : u = Value.ref a := rv
  obtain ⟨as, hR, hn⟩ := Dd.reads I hok hd _ rfl
  have hu := hr.units
  exact str_of_reads hR h1 (fun _ => hn) hg (by omega) (fun _ _ e => e) (fun h' u tk hk => ⟨.str d.shown, H, I.kept hk, ⟨_, rfl⟩, q⟩) h3
/-- the class's name -/
def tyN : PyData → String
  | .none => "NoneType"
  | .bool _ => "bool"
  | .int _ => "int"
  | .str _ => "str"
  | .list _ => "list"
  | .tuple _ => "tuple"
  | .dict _ => "dict"
theorem Dd.ty {K : PySem.W.Frag} {v : V} {d : PyData} (h : Dd K ok H v d) : TyX K H v (.type (tyN d)) := by
  cases h with
  | non => exact .base .non
  | bl b => exact .base (.bl b)
  | int i => exact .base (.int i)
  | str x => exact .base (.str x)
  | lst h _ _ => exact .base (.lst h)
  | tup h _ =>
    rcases h with (h | ⟨o, h⟩) | ⟨o, its, n, h1, h2, _⟩
    · exact .base (.tup h)
    · exact .fTuple h
    · exact .kTuple h1 h2
  | dk h _ _ => exact .base (.dK h)
/-- == of anything but dicts -/
def rEqA (X : Cx) : R2 := fun x y H Q => ∃ (d e : PyData) (ok : Addr → Prop), (∀ a, ok a → a ≠ sysModules) ∧ Dd X.K ok H x d ∧ Dd X.K ok H y e ∧ SeqAt.shaped d = true ∧ SeqAt.shaped e = true ∧ Q (.bl (PyData.eqv d e)) H
theorem op_eqA (hu : X.A.units + 64 < cLine) : OpR X (compareOp .Eq) (rEqA X) := by
  intro pins s σ H x y v u Q I rx ry h
  obtain ⟨d, e, ok, hok, hd, he, sd, se, q⟩ := h
  obtain ⟨as, r1, _⟩ := Dd.reads I hok hd v rx
  obtain ⟨bs, r2, _⟩ := Dd.reads I hok he u ry
  exact SeqAt.compareEq_shaped r1 r2 sd se hu ⟨.bl _, H, I, rfl, q⟩
/-- in, not in, of anything but dicts, in a tuple of such -/
def rInA (X : Cx) (neg : Bool) : R2 := fun x y H Q => ∃ (d : PyData) (ds : List PyData) (ok : Addr → Prop), (∀ a, ok a → a ≠ sysModules) ∧ Dd X.K ok H x d ∧ Dd X.K ok H y (.tuple ds) ∧ SeqAt.shaped d = true ∧ SeqAt.shaped (.tuple ds) = true ∧ Q (.bl (if neg then !ds.any (fun z => PyData.eqv z d) else ds.any fun z => PyData.eqv z d)) H
theorem op_inA (hu : X.A.units + 65 < cLine) : OpR X (compareOp .In) (rInA X false) := by
  intro pins s σ H x y v u Q I rx ry h
  obtain ⟨d, ds, ok, hok, hd, he, sd, se, q⟩ := h
  obtain ⟨as, r1, _⟩ := Dd.reads I hok hd v rx
  obtain ⟨bs, r2, _⟩ := Dd.reads I hok he u ry
  exact SeqAt.in_tuple_reads r2 r1 (SeqAt.canLay_of_shaped se) (SeqAt.canLay_of_shaped sd) (room_in_shaped sd hu) ⟨.bl _, H, I, rfl, q⟩
theorem op_notInA (hu : X.A.units + 65 < cLine) : OpR X (compareOp .NotIn) (rInA X true) := by
  intro pins s σ H x y v u Q I rx ry h
  obtain ⟨d, ds, ok, hok, hd, he, sd, se, q⟩ := h
  obtain ⟨as, r1, _⟩ := Dd.reads I hok hd v rx
  obtain ⟨bs, r2, _⟩ := Dd.reads I hok he u ry
  exact SeqAt.notIn_tuple_reads r2 r1 (SeqAt.canLay_of_shaped se) (SeqAt.canLay_of_shaped sd) (room_in_shaped sd hu) ⟨.bl _, H, I, rfl, q⟩
/-- [e, ..]: a new list, not where the modules are -/
def tLstS (t : TA) : TE := fun σ H Q => t σ H fun xs H1 => xs.length ≤ sizeLine ∧ ∀ p, H1 p = none → p ≠ sysModules → Q (.ref p) (upd H1 p (.lst xs))
theorem pe_lstS {es : List Expr} {pos : Pos} {t : TA} (h : PA X es t) : PE X (.List es pos) (tLstS t) := by
  constructor
  intro pins s σ H Q I hq
  refine wpAny_List_spliced (thn (h.run pos pins s σ H _ I hq) ?_)
  rintro us s1 ⟨xs, H1, I1, r, z, q⟩
  refine ⟨by rw [← r.length]; exact z, ?_⟩
  have new := I1.hok.fresh (Nat.le_refl s1.heap.objs.size)
  have far : s1.heap.objs.size ≠ sysModules := (Nat.ne_of_lt I1.big).symm
  refine ⟨.ref s1.heap.objs.size, _, I1.laid (t' := s1.toks) (o := .lst xs) (fun b u e => Heap.get?_push_of_some _ e) (Nat.le_refl _) ⟨z, us, 0, r, Heap.get?_push_size _ rfl⟩, rfl, q _ new far⟩
/-- a dict does not lie where the modules are -/
def tSys (t : TE) : TE := fun σ H Q => t σ H fun v H' => (∀ a kvs, H' a = some (.dK kvs) → a ≠ sysModules) → Q v H'
theorem pe_sys {e : Expr} {t : TE} (h : PE X e t) : PE X e (tSys t) := by
  constructor
  intro pins s σ H Q I hq
  refine thn (h.run pins s σ H _ I hq) ?_
  rintro u s1 ⟨v, H1, I1, r, q⟩
  exact ⟨v, H1, I1, r, q fun a kvs e => fun z => by
    have := (I1.hok a _ e).2.1
    rw [z] at this
    exact absurd this (by decide)⟩
end
end AD

/-! d.get(y) of a written dict of texts, y a text (there or not) or None. -/
namespace FG
open PySem PySem.Spec PyProof.Rows L2 GR
/-- what the dict at p says of y -/
def Says (es : Array DictEntry) (y r : V) : Prop := (y = .non ∧ r = .non) ∨ ∃ z, y = .str z ∧ ((∃ u, findBy Value.isStrOf es z = some u ∧ RelV r u) ∨ (findBy Value.isStrOf es z = none ∧ r = .non))
def tKGet (K : PySem.W.Frag) (w : World) (td ty : TE) : TE := fun σ H Q => td σ H fun x H1 => ∃ (p : Addr) (es : Array DictEntry) (n : Nat), x = .ref p ∧ K.lookup p = some ⟨.type "dict", none, .dict es n, #[]⟩ ∧ PySem.W.KeysLit w.params es.toList ∧ (p == sysModules) = false ∧
  ty σ H1 fun y H2 => ∃ r, Says es y r ∧ Q r H2
/-- None is no key of it -/
theorem none_at {P : Program} {w : World} {h : Heap} {p : Addr} {es : Array DictEntry} {n : Nat} (hp : h.get? p = some ⟨.type "dict", none, .dict es n, #[]⟩) (hk : PySem.W.KeysLit w.params es.toList) : ∃ f, h.MapOf (noneKind P w) p f ∧ f none = none := by
  refine ⟨fun k => findBy (noneKind P w).is es k, ⟨_, es, n, hp, ⟨rfl, rfl, rfl⟩, rfl, fun e he => ?_, fun _ => rfl⟩, ?_⟩
  · obtain ⟨x, t, e1, e2⟩ := hk.all e (Array.mem_toList_iff.mpr he)
    exact ⟨some (.inr x), by rw [e1]; show keyIs (.inr x) (.str x t) = true; simp only [keyIs, PySem.W.isStr_of]; show (x == x) = true; exact beq_self_eq_true x, e2⟩
  · have q : (es.find? fun e => nkIs none e.key) = none := by
      rw [Array.find?_eq_none]
      intro e he hq
      obtain ⟨x, t, e1, _⟩ := hk.all e (Array.mem_toList_iff.mpr he)
      rw [e1] at hq
      exact absurd (nk_none hq) (fun z => nomatch z)
    show (es.find? fun e => nkIs none e.key).map (·.val) = none
    rw [q]
    rfl
section
variable {X : Cx} {o e : Expr} {apos cpos : Pos} {td ty : TE}
theorem pe_kget (ho : PE X o td) (he : PE X e ty) (m : M1 X o "get" apos e cpos) : PE X (.Call (.Attribute o "get" apos) [e] [] cpos) (tKGet X.K X.w td ty) := by
  refine ⟨fun pins s σ H Q I h => ?_⟩
  refine wpAny_Call_method m.base m.few m.line PySem.F.plainAttrs_dict PySem.F.slot_dict_get PySem.F.type_dict_get (thn (ho.run pins s σ H _ I h) fun u s1 ⟨x, H1, I1, rx, p, es, n, ex, hl, hk, hd, q1⟩ => ?_)
  subst ex
  obtain rfl : u = Value.ref p := rx
  have hp := I1.kIn _ _ hl
  refine ⟨⟨_, hp, rfl⟩, fun b q => ⟨_, by cases q; exact hp, rfl⟩, ?_⟩
  rw [m.trees]
  refine Calls.callWith_builtin rfl (Calls.evalArgs_plain (Calls.spliced_cons (thn (he.run pins s1 σ H1 _ I1 q1) fun iv s2 ⟨y, H2, I2, ry, r, hs, q2⟩ => Calls.spliced_nil ?_)))
  have hp2 := I2.kIn _ _ hl
  have hm := PySem.W.mapOf_K (prog := X.prog) (w := X.w) I2.kIn hl hk
  rcases hs with ⟨rfl, rfl⟩ | ⟨z, rfl, hz⟩
  · obtain rfl : iv = Value.none := ry
    obtain ⟨f, hf, hn⟩ := none_at (P := X.prog) (w := X.w) hp2 hk
    refine call_meetsIn PySem.F.slot_dict_get ⟨_, hp2, rfl⟩ PySem.F.entry_dict_get (PySem.F.args_dict_get_2 _ _) (meets_dict_get (noneKind X.prog X.w) p (show (noneKind X.prog X.w).is none .none = true from rfl) hd) ⟨_, hf, ?_⟩
    rw [hn]
    exact ⟨.non, H2, I2.tok _, rfl, q2⟩
  · obtain ⟨t, rfl⟩ := (show ∃ t, iv = Value.str z t from ry)
    refine call_meetsIn PySem.F.slot_dict_get ⟨_, hp2, rfl⟩ PySem.F.entry_dict_get (PySem.F.args_dict_get_2 _ _) (meets_dict_get (strKind X.prog X.w) p (strKind_is X.prog X.w z t) hd) ⟨_, hm, ?_⟩
    rcases hz with ⟨u, hu, rr⟩ | ⟨hu, rfl⟩
    · rw [hu]
      exact ⟨r, H2, I2.tok _, rr, q2⟩
    · rw [hu]
      exact ⟨.non, H2, I2.tok _, rfl, q2⟩
end
end FG

namespace K7
open PySem PySem.Spec PyProof.Rows L2 GR AD
def isS : PyData → Bool
  | .str _ => true
  | _ => false
theorem kit_s (K : PySem.W.Frag) : ∀ d : PyData, PySem.W.kitOne K (.type (tyN d)) (.type "str") = some (isS d)
  | .none => kit_ty (show kitB "NoneType" "str" = some false by decide +kernel)
  | .bool _ => kit_ty (show kitB "bool" "str" = some false by decide +kernel)
  | .int _ => kit_ty (show kitB "int" "str" = some false by decide +kernel)
  | .str _ => kit_ty (show kitB "str" "str" = some true by decide +kernel)
  | .list _ => kit_ty (show kitB "list" "str" = some false by decide +kernel)
  | .tuple _ => kit_ty (show kitB "tuple" "str" = some false by decide +kernel)
  | .dict _ => kit_ty (show kitB "dict" "str" = some false by decide +kernel)
theorem Dd.tup_inv {K : PySem.W.Frag} {ok : Addr → Prop} {H : Hp} {v : V} {ds : List PyData} (h : Dd K ok H v (.tuple ds)) : ∃ a xs, v = .ref a ∧ SqT K H a xs ∧ DdAll K ok H xs ds := by
  cases h with
  | tup h1 h2 => exact ⟨_, _, rfl, h1, h2⟩
section
variable {P : Program} {w : World} {K : PySem.W.Frag} {mg : Str → Option Value} {base : Heap}
/-- a def of one thing that tells a truth of it -/
def sp_is (K : PySem.W.Frag) (f : PyData → Bool) : Sp := fun vs H Q _ => ∃ (v : V) (d : PyData) (ok : Addr → Prop), vs = [v] ∧ Dd K ok H v d ∧ Q (.bl (f d)) H
/-- a value of the language -/
def isV : PyData → Bool
  | .int i => decide (-LIM ≤ i) && decide (i ≤ LIM)
  | _ => false
/-! ### names -/
abbrev BARW : List Str := ["key", "if", "at", "count", "sum", "most", "first", "let", "need", "put", "each", "tell"]
def lowC (c : Nat) : Bool := decide (97 ≤ c) && decide (c ≤ 122)
def isN : PyData → Bool
  | .str z => (decide (1 ≤ z.length) && decide (z.length ≤ 8)) && (!decide (z ∈ BARW) && z.cps.toList.all lowC)
  | _ => false
/-- a written tuple of texts -/
def KTx (K : PySem.W.Frag) (p : Addr) (fs : List Str) : Prop := ∀ H, SqT K H p (fs.map V.str)
def Sh (d : PyData) : Prop := ∀ z, d = .str z → z.length ≤ 1000 ∧ PyData.strOk z = true
def sp_isS (K : PySem.W.Frag) (f : PyData → Bool) : Sp := fun vs H Q _ => ∃ (v : V) (d : PyData) (ok : Addr → Prop), vs = [v] ∧ Dd K ok H v d ∧ Sh d ∧ ∀ H', Same H H' → Q (.bl (f d)) H'
theorem take_at {α : Type} {l : List α} {i : Nat} {x : α} (h : l[i]? = some x) : l.take (i + 1) = l.take i ++ [x] := by
  rw [List.take_add_one, h]
  rfl
theorem flat_strsW (W : List Str) : (W.map V.str).all flatV = true := by
  rw [List.all_map, List.all_eq_true]
  intro z _
  rfl
end
end K7

namespace K7
open PySem PySem.Spec PyProof.Rows L2 GR AD
/-! ### the form of an expression -/
section
variable {P : Program} {w : World} {K : PySem.W.Frag} {mg : Str → Option Value} {base : Heap}
end
end K7

namespace K7
open PySem PySem.Spec PyProof.Rows L2 GR AD RZ
section
variable {P : Program} {w : World} {K : PySem.W.Frag} {mg : Str → Option Value} {base : Heap}
end
end K7

namespace K7
open PySem PySem.Spec PyProof.Rows L2 GR AD RZ WX
theorem _root_.AD.DdAll.app {K : PySem.W.Frag} {ok : Addr → Prop} {H : Hp} : ∀ {vs us : List V} {ds es : List PyData}, DdAll K ok H vs ds → DdAll K ok H us es → DdAll K ok H (vs ++ us) (ds ++ es)
  | _, _, _, _, .nil, h => h
  | _, _, _, _, .cons a t, h => .cons a (t.app h)
section
variable {P : Program} {w : World} {K : PySem.W.Frag} {mg : Str → Option Value} {base : Heap}
end
end K7

namespace K7
open PySem PySem.Spec PyProof.Rows L2 GR AD RZ WX
/-! ### expressions among any data -/
mutual
/-- its size, and that its texts are short -/
def sz : PyData → Nat
  | .tuple ds => 1 + szs ds
  | _ => 1
def szs : List PyData → Nat
  | [] => 0
  | d :: ds => sz d + szs ds
end
theorem sz_pos : ∀ d : PyData, 1 ≤ sz d
  | .tuple ds => by rw [sz]; omega
  | .none => Nat.le_refl 1
  | .bool _ => Nat.le_refl 1
  | .int _ => Nat.le_refl 1
  | .str _ => Nat.le_refl 1
  | .list _ => Nat.le_refl 1
  | .dict _ => Nat.le_refl 1
end K7

namespace K7
open PySem PySem.Spec PyProof.Rows L2 GR AD RZ WX
theorem dd_split {K : PySem.W.Frag} {ok : Addr → Prop} {H : Hp} : ∀ {us ws : List V} {xs : List PyData}, DdAll K ok H (us ++ ws) xs → ∃ d1 d2, xs = d1 ++ d2 ∧ DdAll K ok H us d1 ∧ DdAll K ok H ws d2
  | [], ws, xs, h => ⟨[], xs, rfl, .nil, h⟩
  | u :: us, ws, _, .cons h t => by
    obtain ⟨d1, d2, rfl, h1, h2⟩ := dd_split t
    exact ⟨_ :: d1, d2, rfl, .cons h h1, h2⟩
theorem dd_last {K : PySem.W.Frag} {ok : Addr → Prop} {H : Hp} {us : List V} {xs : List PyData} (h : DdAll K ok H us xs) (hne : us ≠ []) : ∃ y d xs', xs = xs' ++ [d] ∧ us[us.length - 1]? = some y ∧ DdAll K ok H us.dropLast xs' ∧ Dd K ok H y d := by
  have e := List.dropLast_concat_getLast hne
  rw [← e] at h
  obtain ⟨d1, d2, rfl, g1, g2⟩ := dd_split h
  cases g2 with
  | cons g3 g4 =>
  cases g4
  refine ⟨us.getLast hne, _, d1, rfl, ?_, g1, g3⟩
  rw [← List.getLast?_eq_getElem?, List.getLast?_eq_getLast hne]
section
variable {P : Program} {w : World} {K : PySem.W.Frag} {mg : Str → Option Value} {base : Heap}
end
end K7

namespace K7
open PySem PySem.Spec PyProof.Rows L2 GR AD RZ WX
/-! ### what is true of each part of an expression -/
mutual
theorem dd_of {K : PySem.W.Frag} {ok : Addr → Prop} {H : Hp} : ∀ (x : PyData) (v : V), flatD x = true → Dp K H v x → Dd K ok H v x
  | .none, _, _, h => by cases h; exact .non
  | .bool b, _, _, h => by cases h; exact .bl b
  | .int i, _, _, h => by cases h; exact .int i
  | .str z, _, _, h => by cases h; exact .str z
  | .tuple ds, _, hf, h => by
    cases h with
    | tup h1 h2 => exact .tup h1 (dd_ofs ds _ (by rw [flatD] at hf; exact hf) h2)
  | .list ds, _, hf, h => by simp only [flatD, Bool.false_eq_true] at hf
  | .dict ds, _, hf, h => by cases h
theorem dd_ofs {K : PySem.W.Frag} {ok : Addr → Prop} {H : Hp} : ∀ (xs : List PyData) (vs : List V), flatDs xs = true → DpAll K H vs xs → DdAll K ok H vs xs
  | [], _, _, h => by cases h; exact .nil
  | x :: xs, _, hf, h => by
    rw [flatDs, Bool.and_eq_true] at hf
    cases h with
    | cons h1 h2 => exact .cons (dd_of x _ hf.1 h1) (dd_ofs xs _ hf.2 h2)
end
abbrev F0 : Addr → Prop := fun _ => False
section
variable {P : Program} {w : World} {K : PySem.W.Frag} {mg : Str → Option Value} {base : Heap}
end
end K7

namespace K7
open PySem PySem.Spec PyProof.Rows L2 GR AD RZ WX
section
variable {P : Program} {w : World} {K : PySem.W.Frag} {mg : Str → Option Value} {base : Heap}
/-! ### plain, simple -/
abbrev aggW : List Str := ["count", "sum", "most", "first"]
end
end K7

namespace K7
open PySem PySem.Spec PyProof.Rows L2 GR AD RZ WX ZE
/-! ### what holds of all parts -/
section
variable {P : Program} {w : World} {K : PySem.W.Frag} {mg : Str → Option Value} {base : Heap}
def sp_rows_of (K : PySem.W.Frag) : Sp := fun vs H Q _ => ∃ t, vs = [.str t] ∧ ∀ H' v, Same H H' → Dp K H' v (rowX t) → Q v H'
theorem all_map (f : PyData → Bool) (l : List PyData) : (l.map f).all id = l.all f := by
  rw [List.all_map]
  rfl
end
end K7

/-! Sets of texts that can be walked: what one more element does to the object, for any kind of key. -/
namespace TX
open PySem PySem.Spec PyProof.Rows L2
section
variable {P : Program} {w : World} {A : Around} {E : Value → Shared → Prop} {s : Shared} {a : Addr}
/-- the object at a is the same set with these entries, and its table is as good as before -/
structure Grown (h0 h : Heap) (a : Addr) (o : Obj) (t : SetTable) (l : List (Int × Value)) : Prop where
  same : Heap.SameBut a h0 h
  at' : ∃ es ep t', h.get? a = some { o with data := .set es ep t' } ∧ es.toList.Perm l ∧ t'.fits es.size = true ∧ (Ris t.place.toList → Ris t'.place.toList) ∧ t'.led = t.led
theorem got {h : Heap} {o : Obj} {es es' : Array (Int × Value)} {ep : Nat} {t t' : SetTable} (ho : h.get? a = some o) (hd : o.data = .set es ep t) :
    (h.update a (Obj.putSet es' t')).get? a = some { o with data := .set es' (ep + 1) t' } := store_at ho hd
/-- laid down, and laid anew where the table is too full -/
theorem tail {g : Bool → Sem Unit} (hg : ∀ (b : Bool) (s₁ : Shared) (Q' : Unit → Shared → Prop), Q' () s₁ → wpAny (model P w) A (g b) Q' E s₁) {o : Obj} {es es1 : Array (Int × Value)} {ep : Nat} {t t0 t2 : SetTable} (ho : s.heap.get? a = some o) (hd : o.data = .set es ep t)
    {l : List (Int × Value)} (pm : es1.toList.Perm l) (small : es1.size < scanBound) (fit : t2.fits es1.size = true) (ris : Ris t0.place.toList → Ris t2.place.toList) (led : t2.led = t0.led) {d : Bool} {R : Option Bool → Shared → Prop}
    (done : ∀ h', Grown s.heap h' a o t0 l → R (some true) { s with heap := h' }) :
    wpAny (model P w) A (do
        storeSet a es1 t2
        if (!d && t2.tooFull) = true then do
            g (relayAll t2 es1 (SetTable.grown es1.size)).2.2
            storeSet a (relayAll t2 es1 (SetTable.grown es1.size)).1 (relayAll t2 es1 (SetTable.grown es1.size)).2.1
            pure (some true)
          else pure (some true)) R E s := by
  have h1 := got (es' := es1) (t' := t2) ho hd
  have b1 := Heap.SameBut.update s.heap a (Obj.putSet es1 t2)
  apply wpAny_bind
  refine wpAny_storeSet_of ho hd ?_ (fits_of_scanBound small)
  by_cases full : (!d && t2.tooFull) = true
  · rw [if_pos full]
    have p2 := relayAll_perm t2 es1 (SetTable.grown es1.size)
    have small2 : (relayAll t2 es1 (SetTable.grown es1.size)).1.size < scanBound := by
      have := p2.length_eq
      rw [Array.length_toList, Array.length_toList] at this
      omega
    apply wpAny_bind
    refine hg _ _ _ ?_
    apply wpAny_bind
    refine wpAny_storeSet_of h1 rfl ?_ (fits_of_scanBound small2)
    exact wpAny_pure (done _ ⟨b1.trans (Heap.SameBut.update _ a _), _, _, _, (got (o := { o with data := .set es1 (ep + 1) t2 }) h1 rfl : _), p2.trans pm, relayAll_fits t2 es1 _, fun _ => relayAll_ris t2 es1 _, (relayAll_led t2 es1 _).trans led⟩)
  · rw [if_neg full]
    exact wpAny_pure (done _ ⟨b1, es1, _, t2, h1, pm, fit, ris, led⟩)

/-- one more element, or none where it is in -/
theorem add {K : Type} [DecidableEq K] {knd : PySem.KeyKind P w K} {o : Obj} {es : Array (Int × Value)} {ep : Nat} {t : SetTable} {k : K} {v : Value} {Q : Bool → Shared → Prop} (ho : s.heap.get? a = some o) (hd : o.data = .set es ep t) (hel : ElemsOf knd es.toList)
    (small : es.size + 1 < scanBound) (hf : t.fits es.size = true) (hk : knd.is k v = true) (hsc : v.scannable = true) (old : (∃ e ∈ es.toList, knd.is k e.2 = true) → Q false s)
    (new : (∀ e ∈ es.toList, knd.is k e.2 = false) → ∀ h', Grown s.heap h' a o t ((knd.hash k, v) :: es.toList) → Q true { s with heap := h' }) : wpAny (model P w) A (setAddHashed a v (knd.hash k)) Q E s := by
  unfold setAddHashed setAddHashedIn
  apply wpAny_holding
  apply wpAny_bind
  refine wpAny_setState_of ho hd hf ?_
  dsimp only
  rw [byScan_of hsc (by omega) hel]
  simp only [↓reduceIte]
  unfold setAddByScan
  apply wpAny_bind
  apply wpAny_bind
  apply wpAny_rule
  apply wpAny_bind
  refine wpAny_setScan_of hk ho hd hf hel ?_
  cases hfi : List.findIdx? (fun e => knd.is k e.2) es.toList with
  | some j =>
    dsimp only
    obtain ⟨hj, pj, _⟩ := List.findIdx?_eq_some_iff_getElem.mp hfi
    exact wpAny_pure (wpAny_pure (old ⟨_, List.getElem_mem hj, pj⟩))
  | none =>
    dsimp only
    have out : ∀ e ∈ es.toList, knd.is k e.2 = false := fun e he => by
      have := List.findIdx?_eq_none_iff.mp hfi e he
      simpa using this
    have pm : (layNew t es (knd.hash k) v).1.toList.Perm ((knd.hash k, v) :: es.toList) := by
      have := layNew_perm t es (knd.hash k) v
      rw [Array.toList_push] at this
      exact this.trans (List.perm_append_singleton _ _)
    have small1 : (layNew t es (knd.hash k) v).1.size < scanBound := by
      have := pm.length_eq
      rw [Array.length_toList, List.length_cons, Array.length_toList] at this
      omega
    have fit := layNew_fits t es (knd.hash k) v
    have ris := layNew_ris t es (knd.hash k) v
    have led := layNew_led t es (knd.hash k) v
    have wg : ∀ (b : Bool) {s₁ : Shared} {Q' : Unit → Shared → Prop}, Q' () s₁ → wpAny (model P w) A (match b with | true => rule "set.scan.the-table-gave-way" | false => pure ()) Q' E s₁ := fun b s₁ Q' q => by
      cases b
      · exact wpAny_pure q
      · exact wpAny_rule q
    generalize layNew t es (knd.hash k) v = Z at pm small1 fit ris led ⊢
    obtain ⟨es1, t1, dummy, gave⟩ := Z
    dsimp only at pm small1 fit ris led ⊢
    apply wpAny_bind
    refine wg _ ?_
    have gave' : ∀ (b : Bool) (s₁ : Shared) (Q' : Unit → Shared → Prop), Q' () s₁ → wpAny (model P w) A (match b with | true => rule "set.scan.the-table-gave-way" | false => pure ()) Q' E s₁ := fun b s₁ Q' q => wg b q
    by_cases pl : t1.plain = true
    · rw [if_pos pl]
      apply wpAny_bind
      rw [hashByValue_scannable 8 hsc]
      apply wpAny_pure
      cases plainKind v with
      | true =>
        simp only [if_true]
        refine tail gave' ho hd pm small1 fit ris led ?_
        intro h' G
        exact wpAny_pure (new out h' G)
      | false =>
        simp only [Bool.false_eq_true, if_false]
        refine tail gave' ho hd pm small1 (SetTable.fits_plain_off fit) ris led ?_
        intro h' G
        exact wpAny_pure (new out h' G)
    · rw [if_neg pl]
      apply wpAny_bind
      apply wpAny_pure
      simp only [↓reduceIte]
      refine tail gave' ho hd pm small1 fit ris led ?_
      intro h' G
      exact wpAny_pure (new out h' G)
end
end TX

/-! Sets of texts: new, one more, sorted. -/
namespace TX
open PySem PySem.Spec PyProof.Rows L2
/-- these entries are the texts l -/
structure Els (w : World) (es : List (Int × Value)) (l : List Str) : Prop where
  each : ∀ e ∈ es, ∃ x u, e.2 = Value.str x u ∧ e.1 = hashStr w x
  perm : (es.map fun e => PyProof.Rows.strOf e.2).Perm l
/-- the set of the texts l at a; it can be walked -/
def SetS (w : World) (h : Heap) (a : Addr) (l : List Str) : Prop :=
  ∃ o es ep t, h.get? a = some o ∧ o.ExactSet ∧ o.data = .set es ep t ∧ Els w es.toList l ∧ l.Nodup ∧ es.size < scanBound ∧ t.fits es.size = true ∧ Ris t.place.toList ∧ (w.params.followText "set-order" = true ∨ t.led = true)
theorem SetS.keep {w : World} {h h' : Heap} {a : Addr} {l : List Str} (R : SetS w h a l) (k : ∀ o, h.get? a = some o → h'.get? a = some o) : SetS w h' a l := by
  obtain ⟨o, es, ep, t, ho, r⟩ := R
  exact ⟨o, es, ep, t, k o ho, r⟩
theorem isStr {P : Program} {w : World} (x : Str) (u : Tok) : (PySem.strKind P w).is x (.str x u) = true := by
  show Value.isStrOf x (.str x u) = true
  simp [Value.isStrOf]
theorem Els.kind {P : Program} {w : World} {es : List (Int × Value)} {l : List Str} (G : Els w es l) : ElemsOf (PySem.strKind P w) es := by
  intro e he
  obtain ⟨x, u, e2, e1⟩ := G.each e he
  exact ⟨⟨x, by rw [e2]; exact isStr x u, e1⟩, by rw [e2]; rfl⟩
theorem Els.mem {P : Program} {w : World} {es : List (Int × Value)} {l : List Str} (G : Els w es l) (x : Str) : (∃ e ∈ es, (PySem.strKind P w).is x e.2 = true) ↔ x ∈ l := by
  rw [← G.perm.mem_iff, List.mem_map]
  constructor
  · rintro ⟨e, he, q⟩
    obtain ⟨y, u, e2, _⟩ := G.each e he
    refine ⟨e, he, ?_⟩
    rw [e2] at q ⊢
    exact (PySem.strKind P w).inj (.str y u) y x (isStr y u) q
  · rintro ⟨e, he, q⟩
    obtain ⟨y, u, e2, _⟩ := G.each e he
    refine ⟨e, he, ?_⟩
    rw [e2] at q ⊢
    rw [← q]
    exact isStr y u
theorem Els.more {P : Program} {w : World} {es es' : List (Int × Value)} {l : List Str} {x : Str} {u : Tok} (G : Els w es l) (p : es'.Perm (((PySem.strKind P w).hash x, Value.str x u) :: es)) : Els w es' (x :: l) := by
  constructor
  · intro e he
    rcases List.mem_cons.mp (p.mem_iff.mp he) with rfl | he
    · exact ⟨x, u, rfl, rfl⟩
    · exact G.each e he
  · exact (p.map _).trans (G.perm.cons x)
/-- x put in -/
def put (x : Str) (l : List Str) : List Str := if x ∈ l then l else x :: l
theorem mem_put {x y : Str} {l : List Str} : y ∈ put x l ↔ y = x ∨ y ∈ l := by
  unfold put
  by_cases h : x ∈ l
  · rw [if_pos h]
    exact ⟨.inr, fun z => z.elim (fun e => e ▸ h) id⟩
  · rw [if_neg h, List.mem_cons]
theorem put_nodup {x : Str} {l : List Str} (h : l.Nodup) : (put x l).Nodup := by
  unfold put
  by_cases q : x ∈ l
  · rw [if_pos q]
    exact h
  · rw [if_neg q]
    exact List.nodup_cons.mpr ⟨q, h⟩
theorem put_length {x : Str} {l : List Str} : (put x l).length ≤ l.length + 1 := by
  unfold put
  by_cases q : x ∈ l
  · rw [if_pos q]
    omega
  · rw [if_neg q, List.length_cons]
    exact Nat.le_refl _
section
variable {P : Program} {w : World} {A : Around} {E : Value → Shared → Prop} {s : Shared} {a : Addr} {l : List Str}
theorem SetS.typeIs (R : SetS w s.heap a l) : s.TypeIs (.ref a) "set" := by
  obtain ⟨o, es, ep, t, ho, hx, _⟩ := R
  exact ⟨o, ho, hx.1⟩
theorem call_add {x : Str} {u : Tok} {Q : Value → Shared → Prop} (R : SetS w s.heap a l) (small : l.length + 1 < scanBound) (hQ : ∀ h', Heap.SameBut a s.heap h' → SetS w h' a (put x l) → Q .none { s with heap := h', toks := s.toks + 1 }) :
    wpAny (model P w) A (call (.builtin "set.add") [.ref a, .str x u]) Q E s := by
  refine wpAny_call_entry F.slot_set_add R.typeIs F.entry_set_add ?_ (F.args_set_add_2 _ _)
  obtain ⟨o, es, ep, t, ho, hx, hd, G, nd, hb, hf, hr, hl⟩ := R
  unfold Builtin.«set.add» Builtin.Frozenset.oneOther
  simp only [List.isEmpty_nil, bind_assoc]
  unfold Builtin.Frozenset.addrOf setAdd
  apply wpAny_bind
  apply wpAny_pure
  try dsimp only
  apply wpAny_bind
  apply wpAny_pure
  try dsimp only
  apply wpAny_bind
  apply wpAny_holding
  apply wpAny_bind
  refine (PySem.strKind P w).pyHash (isStr x u) ?_
  have sz : es.size = l.length := by
    have := G.perm.length_eq
    rw [List.length_map, Array.length_toList] at this
    exact this
  refine add (s := { s with toks := s.toks + 1 }) (knd := PySem.strKind P w) (k := x) (v := .str x u) ho hd G.kind (by omega) hf (isStr x u) rfl ?_ ?_
  · intro hin
    show wpAny _ _ (ret Value.none) _ _ _
    refine wpAny_pure ⟨_, rfl, hQ s.heap (Heap.SameBut.refl a s.heap) ?_⟩
    unfold put
    rw [if_pos ((G.mem x).1 hin)]
    exact ⟨o, es, ep, t, ho, hx, hd, G, nd, hb, hf, hr, hl⟩
  · intro out h' N
    show wpAny _ _ (ret Value.none) _ _ _
    refine wpAny_pure ⟨_, rfl, hQ h' N.same ?_⟩
    have hn : x ∉ l := fun z => by
      obtain ⟨e, he, q⟩ := (G.mem (P := P) x).2 z
      rw [out e he] at q
      cases q
    unfold put
    rw [if_neg hn]
    obtain ⟨es1, ep1, t1, h1, p1, f1, r1, l1⟩ := N.at'
    have sz1 : es1.size = es.size + 1 := by
      have := p1.length_eq
      rw [Array.length_toList, List.length_cons, Array.length_toList] at this
      exact this
    exact ⟨_, es1, ep1, t1, h1, hx, rfl, G.more (P := P) p1, List.nodup_cons.mpr ⟨hn, nd⟩, by omega, f1, r1 hr, hl.imp id fun z => l1.trans z⟩
theorem fresh {h : Heap} (w : World) : SetS w (h.push { cls := .type "set", dict := none, data := .set #[] 0 (.fresh 0 0 (!w.params.followText "set-order")) }) h.objs.size [] := by
  refine ⟨_, #[], 0, _, Heap.get?_push_size _ rfl, ⟨rfl, rfl, rfl⟩, rfl, ⟨fun e he => by simp at he, .nil⟩, .nil, by decide, by rfl, .nil, ?_⟩
  show _ ∨ (!w.params.followText "set-order") = true
  cases w.params.followText "set-order"
  · exact .inr rfl
  · exact .inl rfl
/-- sorted(it) -/
theorem call_sorted {Q : Value → Shared → Prop} (R : SetS w s.heap a l) (hh : A.handled = none) (h64 : l.length < 64)
    (hQ : ∀ s' p (out : Array Value) (c : Nat) (ys : List Str), (∀ b o, s.heap.get? b = some o → s'.heap.get? b = some o) → s'.gens = s.gens → s'.os = s.os → s.heap.objs.size ≤ p → s'.heap.get? p = some (seqObj "list" out c) → StrsAre out.toList ys → ys.Perm l → sortedS ys = true → Q (.ref p) s') :
    wpAny (model P w) A (call (.builtin "sorted") [.ref a]) Q E s := by
  obtain ⟨o, es, ep, t, ho, hx, hd, G, nd, hb, hf, hr, hl⟩ := R
  refine Calls.call_function_entry kind_sorted plain_sorted entry_sorted (args_sorted1 _) ?_
  unfold Builtin.«sorted»
  apply wpAny_bind (m := checkCount "sorted" 1 1 _)
  apply wpAny_pure
  apply wpAny_bind
  refine collect_set (A := A.in1) hh ⟨o, ho, hx.1, hd⟩ hf hb hr hl fun s1 vs k1 hz g1 o1 pm => ?_
  have hS : StrsAre vs (vs.map PyProof.Rows.strOf) := strsAre_map vs fun v hv => by
    obtain ⟨e, he, rfl⟩ := List.mem_map.mp (pm.mem_iff.mp hv)
    obtain ⟨x, u, e2, _⟩ := G.each e he
    exact ⟨x, u, e2⟩
  have pl : (vs.map PyProof.Rows.strOf).Perm l := by
    have q := pm.map PyProof.Rows.strOf
    rw [List.map_map] at q
    exact q.trans G.perm
  have hv : vs.length = l.length := by
    have := pl.length_eq
    rw [List.length_map] at this
    exact this
  apply wpAny_bind
  refine wpAny_newList ?_ (by rw [hv, sizeLine_eq]; omega)
  have hL : (s1.heap.push (seqObj "list" vs.toArray 0)).get? s1.heap.objs.size = some (seqObj "list" vs.toArray 0) := Heap.get?_push_size _ rfl
  apply wpAny_bind
  apply wpAny_holding
  refine wpAny_call_entry slot_list_sort ⟨_, hL, rfl⟩ entry_list_sort (list_sort_treeK strKind_oneLt hL hS.keysOf (fun v₁ v₂ rest e => keyKind_strs (by rw [← e]; exact hS)) (by rw [hv]; exact h64) fun st' hp hs => ⟨_, rfl, ?_⟩) (args_list_sort _)
  obtain ⟨ys, y1, y2, y3⟩ := sorted_out_str hS hp hs
  obtain ⟨c, hc⟩ := sortedHeap_at (vs := vs) (out := (arrOf st').map (·.2)) hL
  refine wpAny_pure ⟨_, rfl, hQ _ s1.heap.objs.size _ c ys (fun b u e => ?_) g1 o1 hz hc y1 (y2.trans pl) y3⟩
  have q := k1 b u e
  have lt := Heap.lt_size q
  show (sortedHeap (s1.heap.push (seqObj "list" vs.toArray 0)) s1.heap.objs.size vs _).get? b = some u
  rw [sortedHeap_old (Nat.ne_of_lt lt) (by rw [size_push']; exact Nat.lt_succ_of_lt lt)]
  exact Heap.get?_push_of_some _ q
end
end TX

/-! Sets of texts as things of the hand layer: a comprehension, sorted. -/
namespace TX
open PySem PySem.Spec PyProof.Rows L2
/-- the set of the texts l at a -/
def SetSO (w : World) (a : Addr) (l : List Str) : HO := .ext fun h => SetS w h a l
theorem so_new {w : World} {P : Program} {H : Hp} {h : Heap} {a : Addr} {l : List Str} (R : SetS w h a l) : ObjOk P w H h a (SetSO w a l) := by
  have ⟨o, _, _, _, ho, _⟩ := R
  exact ⟨R, ⟨o, ho⟩, fun h1 h2 p k => SetS.keep p k⟩
section
variable {X : Cx} {pins : List (Addr × Obj)} {σ : L2.St} {H : Hp} {s : Shared} {a : Addr} {l : List Str}
theorem so_get (I : Inv X pins σ H s) (ha : H a = some (SetSO X.w a l)) : SetS X.w s.heap a l := (I.hok a _ ha).1
theorem so_add {E : Value → Shared → Prop} {x : Str} {u : Tok} {Q : Value → Shared → Prop} (I : Inv X pins σ H s) (ha : H a = some (SetSO X.w a l)) (small : l.length + 1 < scanBound)
    (h : ∀ s', Inv X pins σ (upd H a (SetSO X.w a (put x l))) s' → Q .none s') : wpAny (model X.prog X.w) X.A (call (.builtin "set.add") [.ref a, .str x u]) Q E s := by
  refine call_add (so_get I ha) small fun h' sb new => ?_
  have there : ∃ o, h'.get? a = some o := by
    have ⟨o, _, _, _, ho, _⟩ := new
    exact ⟨o, ho⟩
  exact h _ (I.write (e := a) (t' := s.toks + 1) (by rw [ha]; trivial) (.inl rfl) (fun b o hb ho => (sb.2 b hb).trans ho) there (so_new new))
/-- sorted(a set of texts), fewer than 64 -/
def rSortedSS (w : World) : List V → Hp → VK → Prop := fun vs H Q => ∃ (a : Addr) (l : List Str), vs = [V.ref a] ∧ H a = some (SetSO w a l) ∧ l.length < 64 ∧ ∀ (ys : List Str) (p : Addr), ys.Perm l → sortedS ys = true → H p = none → Q (.ref p) (upd H p (.lst (ys.map V.str)))
theorem cr_sortedSS (hc : X.calm = true) : CallR X (.builtin "sorted") (rSortedSS X.w) := by
  intro pins s σ H vs us Q I r h
  obtain ⟨a, l, rfl, ha, h64, q⟩ := h
  rw [Vals.ref1 r]
  refine call_sorted (so_get I ha) (I.ok.hd hc) h64 fun s' p out c ys k g o hp hg hi hy hs => ?_
  have hlen : (ys.map V.str).length ≤ sizeLine := by
    rw [List.length_map, hy.length_eq, sizeLine_eq]
    omega
  have hn : H p = none := I.hok.fresh hp
  have J : Inv X pins σ (upd H p (.lst (ys.map V.str))) { s with heap := s'.heap, gens := s'.gens, drawn := s'.drawn, toks := s'.toks } :=
    I.call (ch := []) (Un.laid k hp hn) (I.hok.laid k hp ⟨hlen, out.toList, c, vals_of_strs hi, hg⟩) (by rw [g]; exact I.bare) (fun _ z => nomatch z)
  have e : s' = { s with heap := s'.heap, gens := s'.gens, drawn := s'.drawn, toks := s'.toks } := by
    cases s'
    cases s
    cases o
    rfl
  rw [e]
  exact ⟨.ref p, _, J, rfl, q ys p hy hs hn⟩
end
end TX

/-! {elt for target in iter if ..}, elt a text. -/
namespace TX
open PySem PySem.Spec PyProof.Rows L2 PpSet
/-- the element goes into the set at D -/
def Into (w : World) (D : Addr) (Nx : Hp → Prop) : VK := fun y H => ∃ (z : Str) (l : List Str), y = .str z ∧ H D = some (SetSO w D l) ∧ l.length + 1 < scanBound ∧ Nx (upd H D (SetSO w D (put z l)))
/-- one turn: target, tests, element -/
def Turn (w : World) (g : TG) (tt : TT) (te : TE) (vs : List Nat) (σ : L2.St) (D : Addr) (Nx : Hp → Prop) (x : V) (H : Hp) : Prop :=
  g x (wipe σ vs) H fun σ2 H2 => wipe σ2 vs = wipe σ vs ∧ tt σ2 H2 fun b H3 => if b = true then te σ2 H3 (Into w D Nx) else Nx H3
/-- the set comprehension's reading: W i m what holds before turn i, m falls -/
def tScS (w : World) (wi : TI) (g : TG) (tt : TT) (te : TE) (vs : List Nat) : TE := fun σ H Q => wi σ H fun J H1 => ∀ D, H1 D = none → ∃ W : Nat → Nat → Hp → Prop, (∃ m, W 0 m (upd H1 D (SetSO w D []))) ∧ ∀ i m H, W i m H →
  (J.stop i H ∧ Q (.ref D) H) ∨ (J.go i H ∧ ∃ Nx : Hp → Prop, (∀ H', Nx H' → ∃ m', m' < m ∧ W (i + 1) m' H') ∧ ∀ x H', J.yld i H x H' → Turn w g tt te vs σ D Nx x H')
section
variable {X : Cx}
theorem pe_scS {elt tg iter : Expr} {ifs : List Expr} {scope : Scope} {own : List (PySem.Str × Nat)} {pos : Pos} {wi : TI} {g : TG} {tt : TT} {te : TE} (hc : X.calm = true) (hN : X.N.Nodup) (hi : PI X tg iter wi) (ok : BlkOk X.N X.env.scope scope own)
    (hg : ∀ (s : Shared) (H : Hp) (C : Addr) (cl : List (PySem.Str × Addr)) (fp : List Addr), PG (X.blk s H scope (compEnvC scope cl C X.env) fp) tg g) (ht : ∀ (s : Shared) (H : Hp) (C : Addr) (cl : List (PySem.Str × Addr)) (fp : List Addr), PTs (X.blk s H scope (compEnvC scope cl C X.env) fp) ifs tt)
    (he : ∀ (s : Shared) (H : Hp) (C : Addr) (cl : List (PySem.Str × Addr)) (fp : List Addr), PE (X.blk s H scope (compEnvC scope cl C X.env) fp) elt te) (hs : ∀ x, foldedSetIterable iter X.env x = pure x := by intro _; rfl) :
    PE X (.SetComp elt [⟨tg, iter, ifs, 0⟩] scope pos) (tScS X.w wi g tt te (own.map (·.2))) := by
  refine ⟨fun pins s σ H Q I h => ?_⟩
  rw [eval_SetComp]
  have free : ∀ y ∈ scope.names, y.2 = .free → ∃ c, X.env.cells.lookup y.1 = some c := fun y hy e => (ok.free y hy e).elim (fun k => I.ok.has _ (.inl k)) (fun k => I.ok.has _ (.inr k))
  refine wpAny_comprehension_free rfl hs (closure_ok free) ok.kind (fun y hy e => by rw [ok.uniq y hy, e]) (thn (hi.run pins s σ H _ I h) fun xv s1 hx => thn hx fun itv s2 h2 => ?_)
  obtain ⟨it, fp, tn, J, H2, e, I2, T, st2, f2, q⟩ := h2
  subst e
  refine newSet_ok (newEnv_comp ?_)
  -- the new set is tracked
  obtain ⟨D, hD⟩ : ∃ D, s2.heap.objs.size = D := ⟨_, rfl⟩
  rw [hD]
  obtain ⟨W, ⟨m0, w0⟩, turn⟩ := q D (I2.hok.fresh (Nat.le_of_eq hD))
  obtain ⟨s3, hs3⟩ : ∃ s3 : Shared, ({ s2 with heap := s2.heap.push { cls := .type "set", dict := none, data := .set #[] 0 (.fresh 0 0 (!X.w.params.followText "set-order")) } } : Shared) = s3 := ⟨_, rfl⟩
  have h3 : s3.heap = s2.heap.push { cls := .type "set", dict := none, data := .set #[] 0 (.fresh 0 0 (!X.w.params.followText "set-order")) } := by rw [← hs3]
  obtain ⟨H3, hH3⟩ : ∃ H3, upd H2 D (SetSO X.w D []) = H3 := ⟨_, rfl⟩
  have I3 : Inv X pins σ H3 s3 := by
    rw [← hs3, ← hH3]
    refine I2.laid (t' := s2.toks) (fun b o e => Heap.get?_push_of_some _ e) (Nat.le_of_eq hD) ?_
    rw [← hD]
    exact so_new (fresh X.w)
  rw [hs3]
  rw [hH3] at w0
  -- what the iterator stands upon is not tracked
  have foot : ∀ b ∈ fp, FpOk X pins H3 b ∧ b < s3.heap.objs.size := fun b hb => by
    obtain ⟨o, e, _⟩ := T.obj _ _ st2 b hb
    have lt := Heap.lt_size e
    refine ⟨⟨?_, (f2 b hb).2⟩, ?_⟩
    · rw [← hH3, upd_ne (by rw [← hD]; exact Nat.ne_of_lt lt)]
      exact (f2 b hb).1
    · rw [h3, Heap.size_push]
      exact Nat.lt_succ_of_lt lt
  have st3 : tn 0 s3.heap := T.keep _ _ _ st2 fun b _ o e => by
    rw [h3]
    exact Heap.get?_push_of_some _ e
  have I4 := block_start I3 ok hN foot
  have pg := hg s3 H3 s3.heap.objs.size (cellsFrom (s3.heap.objs.size + 1) scope.names (cloFrom X.env.cells scope.names [])) fp
  have pt := ht s3 H3 s3.heap.objs.size (cellsFrom (s3.heap.objs.size + 1) scope.names (cloFrom X.env.cells scope.names [])) fp
  have pe := he s3 H3 s3.heap.objs.size (cellsFrom (s3.heap.objs.size + 1) scope.names (cloFrom X.env.cells scope.names [])) fp
  show codeAny _ _ (.compStart (.SetComp elt [⟨tg, iter, ifs, 0⟩] scope pos) 0 (.ref it) (.ref D) (compEnvC scope (cellsFrom (s3.heap.objs.size + 1) scope.names (cloFrom X.env.cells scope.names [])) s3.heap.objs.size X.env)) _ { s3 with heap := pushCells (s3.heap.push { cls := .type "dict", data := .dict #[] }) scope.names }
  have bare : ∀ b ∈ fp, H3 b = none := fun b hb => (foot b hb).1.1
  generalize hce : compEnvC scope (cellsFrom (s3.heap.objs.size + 1) scope.names (cloFrom X.env.cells scope.names [])) s3.heap.objs.size X.env = ce at I4 pg pt pe ⊢
  have cL : ce.locals = s3.heap.objs.size := by
    subst hce
    rfl
  generalize hs4 : ({ s3 with heap := pushCells (s3.heap.push { cls := .type "dict", data := .dict #[] }) scope.names } : Shared) = s4 at I4 ⊢
  have st4 : tn 0 s4.heap := T.keep _ _ _ st3 fun b _ o e => by
    rw [← hs4]
    exact pushCells_keeps _ _ _ _ (Heap.get?_push_of_some _ e)
  -- in the block as well
  have stat : ∀ {σ' : L2.St} {H' : Hp} {s' : Shared}, Inv (X.blk s3 H3 scope ce fp) [] σ' H' s' → (∀ b ∈ fp, H' b = none) → ∀ b ∈ fp, FpOk (X.blk s3 H3 scope ce fp) [] H' b := fun {σ' H' s'} I' hn b hb =>
    ⟨hn b hb, (I'.ok.exf b hb).1, I'.ok.exfs b hb, .inl hb, fun x c e => (I'.ok.exf b hb).2 x c e, fun p hp => absurd (show p ∈ ([] : List (Addr × Obj)) ++ [] from hp) (by simp)⟩
  refine (fun (loop : codeAny (model X.prog X.w) X.A (.compLoop (.SetComp elt [⟨tg, iter, ifs, 0⟩] scope pos) 0 (.ref it) (.ref D) ce) _ s4) => codeAny_compStart_set loop (T.self X.A 0 _ _ _ st4 loop)) ?_
  refine compLoopS_any (fun n s' => ∃ i H', Inv (X.blk s3 H3 scope ce fp) [] (wipe σ (own.map (·.2))) H' s' ∧ tn i s'.heap ∧ (∀ b ∈ fp, H' b = none) ∧ W i n H') ?_ m0 ⟨0, H3, I4, st4, bare, w0⟩
  rintro n s5 ⟨i, H5, I5, st5, n5, w5⟩
  rcases turn i n H5 w5 with ⟨stop, fin⟩ | ⟨go, Nx, hNx, step⟩
  · refine thnF (T.done (X.blk s3 H3 scope ce fp) rfl rfl rfl hc i [] s5 _ H5 (fun _ _ => False) I5 (stat I5 n5) st5 stop) fun r s6 ⟨hr, I6⟩ => ?_
    subst hr
    have I7 : Inv X pins σ H5 s6 := I3.call' (ch := fp) I6.os I6.base I6.hok I6.bare fun b hb => ⟨(foot b hb).1.2.2.2.1, (foot b hb).1.2.1, (foot b hb).1.2.2.2.2.1, (foot b hb).1.2.2.2.2.2⟩
    have gone : H5 s3.heap.objs.size = none := by
      have z : H5 ce.locals = none := I6.free
      rw [cL] at z
      exact z
    obtain ⟨m, hn, _⟩ := I6.loc
    have hn : s6.heap.Ns ce.locals m := hn
    rw [cL] at hn
    refine ⟨m, hn, fun h'' sb => ?_⟩
    obtain ⟨f0, f1, f2', f3, f4, f5⟩ := I3.fpOk (Nat.le_refl _) gone
    exact ⟨.ref D, H5, I7.turned (t' := s6.toks) (fun b o hb e => (sb.2 b hb).trans e) f0 f1 f3 f4 f5, rfl, fin⟩
  · refine thnF (T.item (X.blk s3 H3 scope ce fp) rfl rfl rfl hc i [] s5 _ H5 (fun _ _ => False) I5 (stat I5 n5) st5 go) fun r s6 ⟨u, hr, h6⟩ => ?_
    subst hr
    refine thnF h6 fun _ s7 ⟨x, H7, I7, r7, y7, st7, n7⟩ => ?_
    have I7' := I7.pinned (stat I7 n7) (T.obj _ _ st7)
    refine thnF (pg.run _ s7 _ H7 x u _ I7' r7 (step x H7 y7)) fun _ s8 ⟨σ8, H8, I8, hw8, q8⟩ => ?_
    refine thnF (pt.run _ s8 σ8 H8 _ I8 q8) fun b s9 ⟨H9, I9, q9⟩ => ?_
    have next : ∀ {s' : Shared} {H' : Hp}, Inv (X.blk s3 H3 scope ce fp) ([] ++ pinsAt fp s7.heap) σ8 H' s' → Nx H' → ∃ m, m < n ∧ ∃ i H', Inv (X.blk s3 H3 scope ce fp) [] (wipe σ (own.map (·.2))) H' s' ∧ tn i s'.heap ∧ (∀ b ∈ fp, H' b = none) ∧ W i m H' := fun {s' H'} I' nx => by
      obtain ⟨m', hm, w'⟩ := hNx H' nx
      have pinned : ∀ b ∈ fp, ∀ o, s7.heap.get? b = some o → s'.heap.get? b = some o ∧ H' b = none := fun b hb o e => by
        have z := I'.pin (b, o) (List.mem_append_right _ (List.mem_append_right _ (mem_pinsAt hb e)))
        exact ⟨z.1, z.2.1⟩
      have len : (wipe σ (own.map (·.2))).length = σ8.length := by rw [← hw8, wipe_length]
      refine ⟨m', hm, i + 1, H', (I'.unpinned (pins := [])).weak len (fun j v e => ?_), T.keep _ _ _ st7 fun b hb o e => (pinned b hb o e).1, fun b hb => ?_, w'⟩
      · rw [← hw8] at e
        exact (wipe_some e).1
      · obtain ⟨o, e, _⟩ := T.obj _ _ st7 b hb
        exact (pinned b hb o e).2
    cases b with
    | false =>
      simp only [Bool.false_eq_true, if_false] at q9 ⊢
      exact next I9 q9
    | true =>
      simp only [if_true] at q9 ⊢
      refine thnF (pe.run _ s9 σ8 H9 _ I9 q9) fun z s10 ⟨yv, H10, I10, r10, zt, l0, ey, hD10, hz10, nx⟩ => ?_
      subst ey
      obtain ⟨tk, rfl⟩ : ∃ tk, z = Value.str zt tk := r10
      exact so_add (X := X.blk s3 H3 scope ce fp) I10 hD10 hz10 fun s11 I11 => next I11 nx
end
end TX

namespace K7
open PySem PySem.Spec PyProof.Rows L2 GR AD RZ WX ZE TX
/-! ### free keys -/
section
variable {P : Program} {w : World} {K : PySem.W.Frag} {mg : Str → Option Value} {base : Heap}
/-! ### variables -/
end
end K7

/-! Words that the hand layer lacks: a dict made and walked at once, a dict that takes another's entries. -/
namespace K7
open PySem PySem.Spec PyProof.Rows L2 GR AD RZ WX ZE TX
section
variable {X : L2.Cx}
end
end K7

namespace K7
open PySem PySem.Spec PyProof.Rows L2 GR AD RZ WX ZE TX
/-! ### statements, by their form -/
section
variable {P : Program} {w : World} {K : PySem.W.Frag} {mg : Str → Option Value} {base : Heap}
end
section
variable {P : Program} {w : World} {K : PySem.W.Frag} {mg : Str → Option Value} {base : Heap}
end
end K7

namespace K7
open PySem PySem.Spec PyProof.Rows L2 GR AD RZ WX ZE TX
section
variable {P : Program} {w : World} {K : PySem.W.Frag} {mg : Str → Option Value} {base : Heap}
end
end K7

namespace K7
open PySem PySem.Spec PyProof.Rows L2 GR AD RZ WX ZE TX
section
variable {P : Program} {w : World} {K : PySem.W.Frag} {mg : Str → Option Value} {base : Heap}
end
end K7

namespace K7
open PySem PySem.Spec PyProof.Rows L2 GR AD RZ WX ZE TX
section
variable {P : Program} {w : World} {K : PySem.W.Frag} {mg : Str → Option Value} {base : Heap}
/-! ### what is known -/
end
end K7

namespace K7
open PySem PySem.Spec PyProof.Rows L2 GR AD RZ WX ZE TX
section
variable {P : Program} {w : World} {K : PySem.W.Frag} {mg : Str → Option Value} {base : Heap}
end
end K7

/-! t[::-1] of a tuple; list(t) not where the modules are. -/
namespace RVT
open PySem PySem.Spec PyProof.Rows L2 HT
theorem adjust_rev (n : Nat) : Builtin.Slice.sliceAdjust none none (-1) (n : Int) = ((n : Int) - 1, -1) := by
  unfold Builtin.Slice.sliceAdjust
  have h1 : ((-1 : Int) < 0) := by decide
  simp only [h1, if_true]
theorem places_rev (n : Nat) : Builtin.Slice.slicePlaces ((n : Int) - 1) (-1) (-1) = n := by
  unfold Builtin.Slice.slicePlaces
  have h1 : ¬ ((-1 : Int) > 0) := by decide
  simp only [h1, if_false]
  by_cases h : (n : Int) - 1 > -1
  · rw [if_pos h, show (- -1 : Int) = 1 by decide, Int.ediv_one]
    omega
  · rw [if_neg h]
    omega
theorem pick_rev (xs : Array Value) : ((List.range xs.size).filterMap fun (m : Nat) => xs[((xs.size : Int) - 1 + (m : Int) * (-1)).toNat]?).toArray = xs.toList.reverse.toArray := by
  have e : (List.range xs.size).filterMap (fun (m : Nat) => xs[((xs.size : Int) - 1 + (m : Int) * (-1)).toNat]?) = ((List.range xs.size).map fun k => xs.size - 1 - k).filterMap (xs[·]?) := by
    have g : ∀ l : List Nat, (∀ m, m ∈ l → m < xs.size) → l.filterMap (fun (m : Nat) => xs[((xs.size : Int) - 1 + (m : Int) * (-1)).toNat]?) = (l.map fun k => xs.size - 1 - k).filterMap (xs[·]?) := by
      intro l
      induction l with
      | nil => intro _; rfl
      | cons m l ih =>
        intro h
        have hm := h m List.mem_cons_self
        have e1 : ((xs.size : Int) - 1 + (m : Int) * (-1)).toNat = xs.size - 1 - m := by omega
        rw [List.map_cons, List.filterMap_cons, List.filterMap_cons, e1, ih fun y hy => h y (List.mem_cons_of_mem _ hy)]
    exact g _ fun m hm => List.mem_range.mp hm
  rw [e, PySem.W.krv_range, List.filterMap_reverse, PySem.W.krv_all]
section
variable {prog : Program} {w : World} {A : Around} {E : Value → Shared → Prop} {s : Shared}
theorem sliceApplied_rev {sl : Addr} {vl vu vs : Value} {n : Nat} {Q : Int × Int × Nat → Shared → Prop} (hs : s.heap.IsSliceOf sl vl vu vs) (pl : IsPart vl none) (pu : IsPart vu none) (ps : IsPart vs (some (-1)))
    (h : Q ((n : Int) - 1, -1, n) s) : wpAny (model prog w) A (Builtin.Slice.sliceApplied (.ref sl) (pure (n : Int))) Q E s := by
  obtain ⟨os, hos, hcs, hds⟩ := id hs
  unfold Builtin.Slice.sliceApplied Builtin.Slice.sliceFields
  refine wpAny_bind (wpAny_bind (wpAny_field hos hds (x := vl) rfl (wpAny_bind (wpAny_field hos hds (x := vu) rfl (wpAny_bind (wpAny_field hos hds (x := vs) rfl (wpAny_pure ?_)))))))
  refine wpAny_bind (slicePart_ ps ?_)
  show wpAny _ _ (if ((-1 : Int) == 0) = true then _ else _) _ _ s
  rw [if_neg (by decide)]
  refine wpAny_bind (slicePart_ pl (wpAny_bind (slicePart_ pu (wpAny_bind (wpAny_pure ?_)))))
  show wpAny _ _ (match Builtin.Slice.sliceAdjust none none (-1) (n : Int) with | (lo, hi) => pure (lo, (-1 : Int), Builtin.Slice.slicePlaces lo hi (-1))) _ _ s
  rw [adjust_rev]
  show wpAny _ _ (pure ((n : Int) - 1, (-1 : Int), Builtin.Slice.slicePlaces ((n : Int) - 1) (-1) (-1))) _ _ s
  rw [places_rev]
  exact wpAny_pure h
theorem getItem_tuple_rev {t sl : Addr} {items : Array Value} {vl vu vs : Value} {Q : Value → Shared → Prop} (ht : IsTup s.heap t items) (hs : s.heap.IsSliceOf sl vl vu vs) (pl : IsPart vl none) (pu : IsPart vu none) (ps : IsPart vs (some (-1)))
    (h : Q (.ref s.heap.objs.size) { s with heap := s.heap.push { cls := .type "tuple", data := .seq items.toList.reverse.toArray } })
    (hsz : items.size ≤ sizeLine) : wpAny (model prog w) A (getItem (.ref t) (.ref sl)) Q E s := by
  have htake : sizeOk (.seq items.toList.reverse.toArray) := by
    show items.toList.reverse.toArray.size ≤ sizeLine
    rw [List.size_toArray, List.length_reverse, Array.length_toList]
    exact hsz
  obtain ⟨os, hos, hcs, hds⟩ := id hs
  have hTs : s.TypeIs (.ref sl) "slice" := ⟨os, hos, hcs⟩
  unfold getItem
  try with_reducible refine wpAny_holding ?_
  first | refine wpAny_bind (wpAny_pure ?_) | skip
  refine wpAny_bind (wpAny_sequenceKey ht.typeIs (by decide) ?_)
  refine wpAny_bind (wpAny_callSpecial?_slot (name := Str.ofString "__getitem__") ht.typeIs PyProof.Rows.slot_tuple_getitem
    (wpAny_call_entry PyProof.Rows.slot_tuple_getitem ht.typeIs entry_tuple_getitem ?_ (args_tuple_getitem _ _)))
  show wpAny _ _ (Builtin.Tuple.tupleItemsOf (.ref t) >>= _) _ _ s
  refine wpAny_bind (tupleItemsOf_ ht ?_)
  refine wpAny_bind (wpAny_typeOf hTs ?_)
  rw [if_pos (by decide)]
  refine wpAny_bind (sliceApplied_rev hs pl pu ps ?_)
  have hno : ¬ ((((items.size : Int) - 1) == 0 && (-1 : Int) == 1 && items.size == items.size) = true) := by
    intro q
    rw [Bool.and_eq_true, Bool.and_eq_true] at q
    exact absurd q.1.2 (by decide)
  show wpAny _ _ (if (((items.size : Int) - 1) == 0 && (-1 : Int) == 1 && items.size == items.size) = true then _ else _) _ _ s
  rw [if_neg hno, pick_rev]
  first
    | exact wpAny_bind (m := Builtin.Tuple.tupleExact _) (wpAny_newObj_type (wpAny_pure ⟨_, rfl, wpAny_pure h⟩) htake)
    | exact wpAny_bind (m := Builtin.Tuple.tupleExact _) (wpAny_newObj_type (wpAny_bind (wpAny_pure (wpAny_pure ⟨_, rfl, wpAny_pure h⟩))) htake)
    | exact wpAny_bind (wpAny_bind (m := Builtin.Tuple.tupleExact _) (wpAny_newObj_type (wpAny_pure (wpAny_pure ⟨_, rfl, wpAny_pure h⟩)) htake))
    | exact wpAny_bind (wpAny_bind (m := Builtin.Tuple.tupleExact _) (wpAny_newObj_type (wpAny_pure ⟨_, rfl, wpAny_pure h⟩) htake))
end
section
variable {X : Cx}
def tRevT (K : PySem.W.Frag) (te : TE) : TE := fun σ H Q => te σ H fun x H1 => ∃ a xs, x = .ref a ∧ SqT K H1 a xs ∧ ∀ p, H1 p = none → Q (.ref p) (upd H1 p (.tup xs.reverse))
theorem pe_revT {e : Expr} {te : TE} {k : Nat} {p1 p2 p3 pos : Pos} (he : PE X e te) : PE X (.Subscript e (.Slice none none (some (.UnaryOp .USub (.Constant (.int 1) k p1) p2)) p3) pos) (tRevT X.K te) := by
  refine ⟨fun pins s σ H Q I h => ?_⟩
  refine Subscript_ (thn (he.run pins s σ H _ I h) fun v s1 ⟨x, H1, I1, r1, q1⟩ => ?_)
  obtain ⟨a, xs, ex, hx, q⟩ := q1
  subst ex
  cases r1
  have hst : PO X (some (.UnaryOp .USub (.Constant (.int 1) k p1) p2)) (tPart (tUn (rU fun i => .int (-i)) (tC (.int 1)))) := po_some (pe_un un_neg pe_int)
  refine wpAny_Slice (thn (po_none.run pins s1 σ H1 (fun o H2 => o = none ∧ H2 = H1) I1 ⟨rfl, rfl⟩) fun vl s2 ⟨l, H2, I2, pl, el, e2⟩ => ?_)
  subst el e2
  refine thn (po_none.run pins s2 σ H2 (fun o H3 => o = none ∧ H3 = H2) I2 ⟨rfl, rfl⟩) fun vu s3 ⟨u, H3, I3, pu, eu, e3⟩ => ?_
  subst eu e3
  refine thn (hst.run pins s3 σ H3 (fun o H4 => o = some (-1) ∧ H4 = H3) I3 ⟨1, rfl, -1, rfl, rfl, rfl⟩) fun vs s4 ⟨o, H4, I4, ps, eo, e4⟩ => ?_
  subst eo e4
  have I5 : Inv X pins σ H4 { s4 with heap := s4.heap.push { cls := .type "slice", data := .fields #[vl, vu, vs] } } := I4.kept (t' := s4.toks) fun b ob q => Heap.get?_push_of_some _ q
  obtain ⟨its, r, ht, hz⟩ := I5.tuple hx
  have hlen := r.length
  show wpAny (model X.prog X.w) X.A (subscriptTail e (.Slice none none (some (.UnaryOp .USub (.Constant (.int 1) k p1) p2)) p3) (.ref a) (.ref s4.heap.objs.size)) (EP X pins σ Q) X.xe { s4 with heap := s4.heap.push { cls := .type "slice", data := .fields #[vl, vu, vs] } }
  refine tail_any (ops := [.ref a, .ref s4.heap.objs.size]) ht.typeIs (PyProof.Rows.slot_tuple_getitem.lookup) ?_ (by with_unfolding_all rfl)
  refine getItem_tuple_rev ht (Heap.IsSliceOf.new _ vl vu vs) pl pu ps ?_ (by rw [List.size_toArray]; omega)
  refine ⟨.ref _, _, I5.laid (t' := s4.toks) (o := .tup xs.reverse) (fun b ob q => Heap.get?_push_of_some _ q) (Nat.le_refl _) ?_, rfl, q _ (I5.hok.fresh (Nat.le_refl _))⟩
  exact ⟨by rw [List.length_reverse]; exact hz, _, r.reverse, IsTup.new _ _⟩
/-- list(t), a new one -/
theorem call_listS : CallR X (.type "list") (fun xs H Q => ∃ p ys, xs = [.ref p] ∧ SqT X.K H p ys ∧ ∀ l, H l = none → l ≠ sysModules → Q (.ref l) (upd H l (.lst ys))) := by
  intro pins s σ H xs us Q I r h
  obtain ⟨p, ys, rfl, hq, q⟩ := h
  obtain ⟨u, rfl, rx⟩ := vals1 r
  cases rx
  have far : s.heap.objs.size ≠ sysModules := (Nat.ne_of_lt I.big).symm
  have fin : ∀ (its : List Value), Vals ys its → ys.length ≤ sizeLine → ∀ (h' : Heap) (c' : Nat), (∀ b o', s.heap.get? b = some o' → h'.get? b = some o') →
      h'.get? s.heap.objs.size = some { cls := .type "list", dict := none, data := .seq its.toArray c', slots := #[] } → EP X pins σ Q (.ref s.heap.objs.size) { s with heap := h' } := fun its r' hz h' c' kp e =>
    ⟨.ref s.heap.objs.size, _, I.laid (t' := s.toks) kp (Nat.le_refl _) (show ObjOk X.prog X.w _ h' _ (.lst ys) from ⟨hz, its, c', r', e⟩), rfl, q _ (I.hok.fresh (Nat.le_refl _)) far⟩
  obtain ⟨its, r', pl, hz⟩ := I.tuple hq
  have hlen := r'.length
  obtain ⟨o, ho, hc, n, hd⟩ := pl
  exact call_list_seq p (.inr rfl) ho hc hd (fun h' c' kp e => fin its r' hz h' c' kp e) (by simp only [List.size_toArray] <;> omega)
end
end RVT

namespace K7
open PySem PySem.Spec PyProof.Rows L2 GR AD RZ WX ZE TX RVT
/-! ### bounds of what may be asked about -/
def okC (c : Nat) : Bool := decide (32 ≤ c) && decide (c < 127) && (decide (c ≠ 39) && decide (c ≠ 92))
theorem okC_iff {c : Nat} : okC c = true ↔ (32 ≤ c ∧ c < 127) ∧ (c ≠ 39 ∧ c ≠ 92) := by
  unfold okC
  simp only [Bool.and_eq_true, decide_eq_true_eq]
section
variable {S S' : List Str} {q m q' m' : Nat}
theorem ok_so {z : Str} (h : z.cps.toList.all okC = true) : SO z := fun c hc => by
  have := okC_iff.mp (List.all_eq_true.mp h c hc)
  omega
end
section
variable {S : List Str} {q m : Nat}
end
/-! what a bend makes of it -/
section
variable {S : List Str} {q m l s p : Nat} {A B : List PyData} {x : PyData}
end
section
variable {S : List Str} {q m : Nat}
end
end K7

namespace K7
open PySem PySem.Spec PyProof.Rows L2 GR AD RZ WX ZE TX RVT
/-! ### what the generator makes is what it should be -/
theorem isN_nm {z : Str} (h : Nm z) : isN (.str z) = true := by
  obtain ⟨h1, h2, h3, h4⟩ := h
  rw [Array.length_toList] at h1 h2
  have e1 : decide (1 ≤ z.length) = true := decide_eq_true h1
  have e2 : decide (z.length ≤ 8) = true := decide_eq_true h2
  have e3 : decide (z ∈ BARW) = false := decide_eq_false h4
  have e4 : z.cps.toList.all lowC = true := List.all_eq_true.mpr fun c hc => by
    have := h3 c hc
    unfold lowC
    rw [decide_eq_true this.1, decide_eq_true this.2]
    rfl
  show ((decide (1 ≤ z.length) && decide (z.length ≤ 8)) && (!decide (z ∈ BARW) && z.cps.toList.all lowC)) = true
  rw [e1, e2, e3, e4]
  rfl
theorem isV_ok {i : Int} (h1 : -(10 ^ 18) ≤ i) (h2 : i ≤ 10 ^ 18) : isV (.int i) = true := by
  show (decide (-LIM ≤ i) && decide (i ≤ LIM)) = true
  rw [decide_eq_true (by show -(1000000000000000000 : Int) ≤ i; omega), decide_eq_true (by show i ≤ (1000000000000000000 : Int); omega)]
  rfl
section
variable {S zs sc : List Str}
end
end K7

namespace K7
open PySem PySem.Spec PyProof.Rows L2 GR AD RZ WX ZE TX RVT
theorem nm_okC {z : Str} (h : Nm z) : z.cps.toList.all okC = true := List.all_eq_true.mpr fun c hc => okC_iff.mpr (by have := h.2.2.1 c hc; unfold Low at this; omega)
section
variable {S : List Str} {q m : Nat}
end
end K7

namespace K7
open PySem PySem.Spec PyProof.Rows L2 GR AD RZ WX ZE TX RVT
section
variable {S ts cs : List Str}
end
/-! ### the log that is made -/
end K7

/-! texts of plain expressions -/
namespace K7
open PySem PySem.Spec PyProof.Rows L2 GR AD RZ WX ZE TX RVT
open SX (S S_cat S_len S_inj)
theorem ofs_app (a b : String) : PySem.Str.ofString (a ++ b) = PySem.Str.ofString a ++ PySem.Str.ofString b := by
  rw [PySem.Str.ofString_eq_toList, PySem.Str.ofString_eq_toList, PySem.Str.ofString_eq_toList, S_cat, String.toList_append, List.map_append]
/-- the signs of an integer -/
def num (i : Int) : List Nat := if i < 0 then 45 :: TL.numL (0 - i).toNat else TL.numL i.toNat
theorem str_num (i : Int) : PySem.Str.ofString (toString i) = S (num i) := by
  unfold num
  by_cases h : i < 0
  · rw [if_pos h, toString_neg h]
    have e : (0 - i) = ((0 - i).toNat : Int) := by omega
    rw [e]
    have := SX.num_S (0 - i).toNat
    have e2 : PySem.Str.ofString ("-" ++ toString (((0 - i).toNat : Nat) : Int)) = PySem.Str.ofString "-" ++ PySem.Str.ofString (toString (((0 - i).toNat : Nat) : Int)) := by
      exact ofs_app _ _
    rw [e2, this, show PySem.Str.ofString "-" = S [45] by decide +kernel, S_cat]
    rfl
  · rw [if_neg h]
    have e : i = (i.toNat : Int) := by omega
    rw [e]
    exact SX.num_S i.toNat
theorem num_len {i : Int} (h1 : -(10 ^ 18) ≤ i) (h2 : i ≤ 10 ^ 18) : (num i).length ≤ 20 := by
  unfold num
  split
  · have := TL.numL_len (n := (0 - i).toNat) (k := 19) (by decide) (by omega)
    rw [List.length_cons]
    omega
  · have := TL.numL_len (n := i.toNat) (k := 19) (by decide) (by omega)
    omega
theorem num_read {i : Int} (h1 : -(10 ^ 18) ≤ i) (h2 : i ≤ 10 ^ 18) : intText? (S (num i)) = some i := by
  have hl := num_len h1 h2
  by_cases h : i < 0
  · have e : num i = 45 :: TL.numL (0 - i).toNat := by unfold num; rw [if_pos h]
    have := PySem.intText_neg (x := S (num i)) (cs := TL.numL (0 - i).toNat) (by rw [e]) (TL.numL_digits _) (TL.numL_ne _) (by rw [S_len]; omega)
    rw [this, TL.numL_val]
    congr 1
    omega
  · have e : num i = TL.numL i.toNat := by unfold num; rw [if_neg h]
    have h4 : PySem.Str.ofString (toString ((i.toNat : Nat) : Int)) = S (num i) := by rw [e]; exact SX.num_S _
    have := TL.int_num (n := i.toNat) (by rw [← e]; omega)
    rw [h4] at this
    rw [this]
    congr 1
    omega
theorem num_ne (i : Int) : num i ≠ [] := by
  unfold num
  split
  · exact List.cons_ne_nil _ _
  · exact TL.numL_ne _
abbrev isD (c : Nat) : Bool := decide (48 ≤ c) && decide (c ≤ 57)
theorem numL_all (n : Nat) : (TL.numL n).all isD = true := List.all_eq_true.mpr fun c hc => by
  have := TL.numL_digits n c hc
  rw [Bool.and_eq_true, decide_eq_true_eq, decide_eq_true_eq]
  exact this
/-- a sign ahead, or none, and digits -/
theorem num_form (i : Int) : ∃ (ng : Bool) (ds : List Nat), num i = (if ng then [45] else []) ++ ds ∧ ds ≠ [] ∧ ds.all isD = true := by
  by_cases h : i < 0
  · exact ⟨true, TL.numL (0 - i).toNat, by unfold num; rw [if_pos h]; rfl, TL.numL_ne _, numL_all _⟩
  · exact ⟨false, TL.numL i.toNat, by unfold num; rw [if_neg h]; rfl, TL.numL_ne _, numL_all _⟩
/-- the signs of a word -/
abbrev wd (z : Str) : List Nat := z.cps.toList
theorem S_wd (z : Str) : S (wd z) = z := SX.S_tl z
abbrev commas (ls : List (List Nat)) : List Nat := TL.joinL [44, 32] ls
abbrev callk : List (Str × Nat) := [("if", 3), ("at", 2)]
abbrev aggn : List (Str × Nat) := [("count", 1), ("sum", 2), ("most", 3), ("first", 2)]
/-- a plain expression, nested at most n deep, and its text -/
inductive Tx : Nat → PyData → List Nat → Prop
  | int (n : Nat) (i : Int) : -(10 ^ 18) ≤ i → i ≤ 10 ^ 18 → Tx (n + 1) (.tuple [.str "int", .int i]) (num i)
  | key (n : Nat) : Tx (n + 1) (.tuple [.str "key"]) (wd "key")
  | var (n : Nat) (z : Str) : Nm z → Tx (n + 1) (.tuple [.str "var", .str z]) (wd z)
  | cell (n : Nat) (t v : Str) (x : PyData) (l : List Nat) : Nm t → Nm v → Tx n x l → Tx (n + 1) (.tuple [.str "cell", .str t, x, .str v]) (wd t ++ (91 :: (l ++ (93 :: 46 :: wd v))))
  | op (n : Nat) (o : Str) (x y : PyData) (l m : List Nat) : o ∈ ops5 → Tx n x l → Tx n y m → Tx (n + 1) (.tuple [.str o, x, y]) (40 :: (l ++ (32 :: (wd o ++ (32 :: (m ++ [41]))))))
  | call (n : Nat) (o : Str) (xs : List PyData) (ls : List (List Nat)) : (o, xs.length) ∈ callk → ls.length = xs.length → (∀ p, p ∈ xs.zip ls → Tx n p.1 p.2) → Tx (n + 1) (.tuple (.str o :: xs)) (wd o ++ (40 :: (commas ls ++ [41])))
  | agg (n : Nat) (o t : Str) (xs : List PyData) (ls : List (List Nat)) : 2 ≤ n → (o, xs.length) ∈ aggn → Nm t → ls.length = xs.length → (∀ p, p ∈ xs.zip ls → Tx n p.1 p.2) →
      Tx (n + 1) (.tuple (.str o :: .str t :: .tuple [] :: rowX t :: xs)) (wd o ++ (40 :: (wd t ++ (44 :: 32 :: (commas ls ++ [41])))))
theorem Tx.mono {n m : Nat} {d : PyData} {l : List Nat} (h : Tx n d l) (e : n ≤ m) : Tx m d l := by
  induction h generalizing m with
  | int n i h1 h2 => obtain ⟨k, rfl⟩ : ∃ k, m = k + 1 := ⟨m - 1, by omega⟩; exact .int k i h1 h2
  | key n => obtain ⟨k, rfl⟩ : ∃ k, m = k + 1 := ⟨m - 1, by omega⟩; exact .key k
  | var n z h1 => obtain ⟨k, rfl⟩ : ∃ k, m = k + 1 := ⟨m - 1, by omega⟩; exact .var k z h1
  | cell n t v x l h1 h2 _ ih => obtain ⟨k, rfl⟩ : ∃ k, m = k + 1 := ⟨m - 1, by omega⟩; exact .cell k t v x l h1 h2 (ih (by omega))
  | op n o x y l r h1 _ _ ih1 ih2 => obtain ⟨k, rfl⟩ : ∃ k, m = k + 1 := ⟨m - 1, by omega⟩; exact .op k o x y l r h1 (ih1 (by omega)) (ih2 (by omega))
  | call n o xs ls h1 h2 _ ih => obtain ⟨k, rfl⟩ : ∃ k, m = k + 1 := ⟨m - 1, by omega⟩; exact .call k o xs ls h1 h2 fun p hp => ih p hp (by omega)
  | agg n o t xs ls h0 h1 h2 h3 _ ih => obtain ⟨k, rfl⟩ : ∃ k, m = k + 1 := ⟨m - 1, by omega⟩; exact .agg k o t xs ls (by omega) h1 h2 h3 fun p hp => ih p hp (by omega)
end K7

/-! the reader -/
namespace K7
open PySem PySem.Spec PyProof.Rows L2 GR AD RZ WX ZE TX RVT
open SX (S S_cat S_len S_inj)
/-- a statement that is never reached -/
def tFalse : TS := fun _ _ _ => False
theorem ps_never {X : L2.Cx} {st : Stmt} : PS X st tFalse := ⟨fun _ _ _ _ _ _ h => h.elim⟩
/-! texts by places -/
theorem start3 {l q : List Nat} {i : Nat} (hi : i ≤ l.length) : Txt.startswith3 (S l) (S q) (i : Int) = q.isPrefixOf (l.drop i) := by
  have e1 : fromIndex (S l).length (i : Int) = i := by
    unfold fromIndex
    rw [if_neg (by omega)]
    omega
  unfold Txt.startswith3
  rw [e1, PySem.StrLaws.subAt_eq]
  have e2 : (S l).cps.toList = l := rfl
  have e3 : (S q).cps.toList = q := rfl
  rw [e2, e3, S_len, S_len, Bool.eq_iff_iff, Bool.and_eq_true, decide_eq_true_eq, beq_iff_eq, List.isPrefixOf_iff_prefix]
  constructor
  · rintro ⟨_, h⟩
    rw [← h]
    exact List.take_prefix _ _
  · rintro ⟨r, hr⟩
    have hl : (l.drop i).length = q.length + r.length := by rw [← hr, List.length_append]
    rw [List.length_drop] at hl
    refine ⟨by omega, ?_⟩
    rw [← hr, List.take_left]
theorem cut_at' {l : List Nat} {i j : Nat} (hi : i ≤ j) (hj : j ≤ l.length) : cutS (S l) (some (i : Int)) (some (j : Int)) = S ((l.drop i).take (j - i)) := by
  unfold cutS
  have h1 : HT.sIx (S l).length 0 (some (i : Int)) = i := by rw [HT.sIx_nat, S_len]; omega
  have h2 : HT.sIx (S l).length (S l).length (some (j : Int)) = j := by rw [HT.sIx_nat, S_len]; omega
  rw [h1, h2]
theorem cut_one {l : List Nat} {i : Nat} (hi : i ≤ l.length) : cutS (S l) (some (i : Int)) (some ((i : Int) + 1)) = S ((l.drop i).take 1) := by
  unfold cutS
  have h1 : HT.sIx (S l).length 0 (some (i : Int)) = i := by rw [HT.sIx_nat, S_len]; omega
  rw [h1, show ((i : Int) + 1) = ((i + 1 : Nat) : Int) from rfl]
  have h2 : HT.sIx (S l).length (S l).length (some ((i + 1 : Nat) : Int)) = min (i + 1) l.length := by rw [HT.sIx_nat, S_len]
  rw [h2]
  have e : ((S l).cps.toList.drop i).take (min (i + 1) l.length - i) = (l.drop i).take 1 := by
    show (l.drop i).take (min (i + 1) l.length - i) = (l.drop i).take 1
    by_cases h : i + 1 ≤ l.length
    · rw [Nat.min_eq_left h, show i + 1 - i = 1 by omega]
    · have : l.drop i = [] := List.drop_of_length_le (by omega)
      rw [this, List.take_nil, List.take_nil]
  rw [e]
/-! the object -/
theorem tp : ¬ (("text" : Str) = "place") := by decide +kernel
def fl (z : Str) (i : Nat) : List (Str × V) := putF "place" (.int (i : Int)) (putF "text" (.str z) [])
theorem fl_eq (z : Str) (i : Nat) : fl z i = ([("text", V.str z), ("place", V.int (i : Int))] : List (Str × V)) := by
  show (if ("text" : Str) = "place" then [(("text" : Str), V.int (i : Int))] else (("text" : Str), V.str z) :: putF "place" (V.int (i : Int)) []) = ([("text", V.str z), ("place", V.int (i : Int))] : List (Str × V))
  rw [if_neg tp]
  all_goals rfl
theorem fl_text (z : Str) (i : Nat) : (fl z i).lookup ("text" : Str) = some (.str z) := by
  unfold fl
  rw [lookup_putF, if_neg tp, lookup_putF, if_pos rfl]
theorem fl_place (z : Str) (i : Nat) : (fl z i).lookup ("place" : Str) = some (.int (i : Int)) := by
  unfold fl
  rw [lookup_putF, if_pos rfl]
theorem fl_no (z : Str) (i : Nat) {m : Str} (h1 : ¬ m = "place") (h2 : ¬ m = "text") : (fl z i).lookup m = none := by
  unfold fl
  rw [lookup_putF, if_neg h1, lookup_putF, if_neg h2]
  all_goals rfl
theorem fl_put (z : Str) (i j : Nat) : putF "place" (.int (j : Int)) (fl z i) = fl z j := by
  rw [fl_eq, fl_eq]
  show (if ("text" : Str) = "place" then _ else (("text" : Str), V.str z) :: (if ("place" : Str) = "place" then [(("place" : Str), V.int (j : Int))] else _)) = ([("text", V.str z), ("place", V.int (j : Int))] : List (Str × V))
  rw [if_neg tp, if_pos rfl]
/-- at p a reader of the text l, up to the place i -/
def RdAt (C : Addr) (H : Hp) (p : Addr) (l : List Nat) (i : Nat) : Prop := ∃ dx, H p = some (.ins C dx (fl (S l) i))
/-- all but p is as it was -/
def KeepR (p : Addr) (H H' : Hp) : Prop := ∀ b o, b ≠ p → H b = some o → H' b = some o
theorem KeepR.refl {p : Addr} {H : Hp} : KeepR p H H := fun _ _ _ e => e
theorem KeepR.of {p : Addr} {H H' : Hp} (s : Same H H') : KeepR p H H' := fun b o _ e => s b o e
theorem KeepR.trans {p : Addr} {H H1 H2 : Hp} (a : KeepR p H H1) (b : KeepR p H1 H2) : KeepR p H H2 := fun x o h e => b x o h (a x o h e)
/-- what the class says -/
structure RC (K : PySem.W.Frag) (C : Addr) : Prop where
  cl : Cls K C
  nT : NoAttr K C "text"
  nP : NoAttr K C "place"
section
variable {P : Program} {w : World} {K : PySem.W.Frag} {mg : Str → Option Value} {base : Heap}
abbrev sReader : Stmt := topS 18
abbrev s_init : Stmt := inClass sReader 0
abbrev s_is_next : Stmt := inClass sReader 1
abbrev s_is_any_next : Stmt := inClass sReader 2
abbrev s_take : Stmt := inClass sReader 3
abbrev s_take_any : Stmt := inClass sReader 4
abbrev s_take_while : Stmt := inClass sReader 5
abbrev s_take_word : Stmt := inClass sReader 6
abbrev s_take_name : Stmt := inClass sReader 7
abbrev s_take_value : Stmt := inClass sReader 8
abbrev s_take_end : Stmt := inClass sReader 9
theorem sc_init : FnScope ["self", "text"] ["self", "text"] (defScope s_init) := ⟨rfl, rfl, rfl, by decide +kernel, rfl, by decide +kernel, by decide +kernel⟩
def sp_rinit (C : Addr) : Sp := fun vs H Q _ => ∃ (p dx : Addr) (l : List Nat), vs = [.ref p, .str (S l)] ∧ H p = some (.ins C dx []) ∧ ∀ H', RdAt C H' p l 0 → KeepR p H H' → Q .non H'
theorem ok_rinit {f C : Addr} {fd : FuncData} {k : Nat} (F : Fun K "__init__" "Reader.__init__" s_init f fd) (T : RC K C) : FnOk P w K mg base CX0 (k + 1) f fd ["self", "text"] (sp_rinit C) := by
  refine F.ok sc_init (fun vs H Q E h => ?_) (fun cdv A outer s H vs Q E hr h => ?_)
  · obtain ⟨p, dx, l, rfl, _⟩ := h
    rfl
  obtain ⟨p, dx, l, rfl, hp, q⟩ := h
  refine ⟨_, pss_cons (ps_fld (pv 0) (pv 1) rfl) (pss_one (ps_fld (pv 0) pe_int rfl)), ?_⟩
  refine ⟨_, rfl, _, rfl, p, C, dx, [], rfl, hp, T.cl, T.nT, (by show 0 < 1000; decide), _, rfl, p, C, dx, _, rfl, upd_same, T.cl, T.nP, (by show 1 < 1000; decide), ?_⟩
  exact q _ ⟨dx, upd_same⟩ fun b o hb e => by rw [upd_ne hb, upd_ne hb]; exact e
theorem sc_is_next : FnScope ["self", "piece"] ["self", "piece"] (defScope s_is_next) := ⟨rfl, rfl, rfl, by decide +kernel, rfl, by decide +kernel, by decide +kernel⟩
def sp_next (C : Addr) : Sp := fun vs H Q _ => ∃ (p : Addr) (l q : List Nat) (i : Nat), vs = [.ref p, .str (S q)] ∧ RdAt C H p l i ∧ i ≤ l.length ∧ Q (.bl (q.isPrefixOf (l.drop i))) H
theorem ok_next {f C : Addr} {fd : FuncData} {k : Nat} (F : Fun K "is_next" "Reader.is_next" s_is_next f fd) (T : RC K C) : FnOk P w K mg base CX0 (k + 1) f fd ["self", "piece"] (sp_next C) := by
  refine F.ok sc_is_next (fun vs H Q E h => ?_) (fun cdv A outer s H vs Q E hr h => ?_)
  · obtain ⟨p, l, q, i, rfl, _⟩ := h
    rfl
  obtain ⟨p, l, q, i, rfl, ⟨dx, hp⟩, hi, qq⟩ := h
  refine ⟨_, (pss_one (ps_ret (pe_bm PySem.F.plainAttrs_str PySem.F.slot_str_startswith PySem.F.type_str_startswith mt_startswith3 (pe_fld (pv 0) rfl) (pa_cons (pv 1) (pa_cons (pe_fld (pv 0) rfl) pa_nil))))), ?_⟩
  refine ⟨_, rfl, p, C, dx, _, _, rfl, hp, T.cl, T.nT, fl_text _ _, rfl, _, rfl, _, rfl, p, C, dx, _, _, rfl, hp, T.cl, T.nP, fl_place _ _, S l, S q, (i : Int), rfl, rfl, ?_⟩
  rw [start3 hi]
  exact qq
theorem sc_is_any_next : FnScope ["self", "signs", "sign"] ["self", "signs"] (defScope s_is_any_next) := ⟨rfl, rfl, rfl, by decide +kernel, rfl, by decide +kernel, by decide +kernel⟩
/-- the next sign is one of these -/
def nextIn (z : Str) (r : List Nat) : Bool := match r with | c :: _ => decide (c ∈ wd z) | [] => false
def sp_anext (C : Addr) : Sp := fun vs H Q _ => ∃ (p : Addr) (l : List Nat) (z : Str) (i : Nat), vs = [.ref p, .str z] ∧ RdAt C H p l i ∧ i ≤ l.length ∧ l.length ≤ 8000000 ∧ Q (.bl (nextIn z (l.drop i))) H
theorem ok_anext {f C : Addr} {fd : FuncData} {k : Nat} (F : Fun K "is_any_next" "Reader.is_any_next" s_is_any_next f fd) (T : RC K C) : FnOk P w K mg base CX0 (k + 1) f fd ["self", "signs"] (sp_anext C) := by
  have nd := sc_is_any_next.nd
  refine F.ok sc_is_any_next (fun vs H Q E h => ?_) (fun cdv A outer s H vs Q E hr h => ?_)
  · obtain ⟨p, l, z, i, rfl, _⟩ := h
    rfl
  obtain ⟨p, l, z, i, rfl, ⟨dx, hp⟩, hi, hl, qq⟩ := h
  refine ⟨_, (pss_cons (ps_set (i := 2) nd rfl (.inl rfl) (pe_slice sl_str (pe_fld (pv 0) rfl) (po_some (pe_fld (pv 0) rfl)) (po_some (pe_op op_add (pe_fld (pv 0) rfl) pe_int))))
      (pss_one (ps_ret (pe_and (pe_cmpR op_ne (pv 2) pe_str (nomark _)) (pe_one (pe_cmpR op_in_sign (pv 2) (pv 1) (by rfl))))))), ?_⟩
  refine ⟨_, rfl, p, C, dx, _, _, rfl, hp, T.cl, T.nT, fl_text _ _, _, rfl, p, C, dx, _, _, rfl, hp, T.cl, T.nP, fl_place _ _, (i : Int), rfl, _, rfl, p, C, dx, _, _, rfl, hp, T.cl, T.nP, fl_place _ _, (i : Int), 1, rfl, rfl, (i : Int) + 1, rfl, S l, rfl, by rw [S_len, sizeLine_eq]; omega, ?_⟩
  rw [cut_one hi]
  cases e : l.drop i with
  | nil =>
    rw [e] at qq
    refine ⟨.str (S []), rfl, rfl, _, rfl, ?_⟩
    rw [show (!decide (V.str (S []) = V.str "")) = false by decide +kernel]
    exact iteF qq
  | cons c r =>
    rw [e] at qq
    refine ⟨.str (S [c]), rfl, rfl, _, rfl, ?_⟩
    rw [show (!decide (V.str (S [c]) = V.str "")) = true from by
      rw [decide_eq_false (fun e => by injection e with e; have := congrArg PySem.Str.length e; rw [S_len] at this; cases this)]; rfl]
    exact iteT ⟨.str (S [c]), rfl, .str z, rfl, c, z, rfl, rfl, qq⟩
theorem sc_take : FnScope ["self", "piece"] ["self", "piece"] (defScope s_take) := ⟨rfl, rfl, rfl, by decide +kernel, rfl, by decide +kernel, by decide +kernel⟩
def sp_take (C : Addr) : Sp := fun vs H Q _ => ∃ (p : Addr) (l q r : List Nat) (i : Nat), vs = [.ref p, .str (S q)] ∧ RdAt C H p l i ∧ i ≤ l.length ∧ l.drop i = q ++ r ∧ l.length ≤ 8000000 ∧
  ∀ H', KeepR p H H' → RdAt C H' p l (i + q.length) → l.drop (i + q.length) = r → i + q.length ≤ l.length → Q .non H'
theorem pre_app (q r : List Nat) : q.isPrefixOf (q ++ r) = true := List.isPrefixOf_iff_prefix.mpr (List.prefix_append q r)
theorem drop_on {l q r : List Nat} {i : Nat} (h : l.drop i = q ++ r) (hi : i ≤ l.length) : l.drop (i + q.length) = r ∧ i + q.length ≤ l.length := by
  have e : (l.drop i).drop q.length = r := by rw [h, List.drop_left]
  rw [List.drop_drop] at e
  have hl : (l.drop i).length = q.length + r.length := by rw [h, List.length_append]
  rw [List.length_drop] at hl
  exact ⟨e, by omega⟩
theorem ok_take {f fn C : Addr} {fd dn : FuncData} {k : Nat} (F : Fun K "take" "Reader.take" s_take f fd) (T : RC K C) (Gn : FnOk P w K mg base CX0 k fn dn ["self", "piece"] (sp_next C)) (mn : Meth K C "is_next" fn) (bn : Binds K dn ["self", "piece"] []) (mlen : mg "len" = none) : FnOk P w K mg base CX0 (k + 1) f fd ["self", "piece"] (sp_take C) := by
  refine F.ok sc_take (fun vs H Q E h => ?_) (fun cdv A outer s H vs Q E hr h => ?_)
  · obtain ⟨p, l, q, r, i, rfl, _⟩ := h
    rfl
  obtain ⟨p, l, q, r, i, rfl, ⟨dx, hp⟩, hi, hd, hl, qq⟩ := h
  refine ⟨_, (pss_cons (ps_if (pt_not (pt_val (pe_meth (pv 0) T.cl mn Gn hr bn .nil pass0 (pa_cons (pv 1) pa_nil)))) (pss_one ps_never) pss_nil)
      (pss_one (ps_fldaug (pv 0) (pe_callB call_len_str (by rfl) mlen PySem.boot_len (pa_cons (pv 1) pa_nil)) in_add))), ?_⟩
  obtain ⟨d1, d2⟩ := drop_on hd hi
  refine ⟨.ref p, rfl, p, dx, _, rfl, hp, fl_no _ _ (by decide +kernel) (by decide +kernel), .str (S q), rfl, p, l, q, i, rfl, ⟨dx, hp⟩, hi, _, rfl, ?_⟩
  rw [hd, pre_app]
  refine iteF ⟨.ref p, rfl, p, C, dx, _, _, rfl, hp, T.cl, T.nP, fl_place _ _, .str (S q), rfl, S q, rfl, ?_, (i : Int), ((S q).length : Int), rfl, rfl, dx, _, hp, (by rw [fl_eq]; show 2 < 1000; decide), ?_⟩
  · rw [S_len, sizeLine_eq]
    omega
  · rw [S_len, show (i : Int) + (q.length : Int) = ((i + q.length : Nat) : Int) from rfl, fl_put]
    exact qq _ (fun b o hb e => by rw [upd_ne hb]; exact e) ⟨dx, upd_same⟩ d1 d2
end
end K7

namespace K7
open PySem PySem.Spec PyProof.Rows L2 GR AD RZ WX ZE TX RVT
open SX (S S_cat S_len S_inj)
section
variable {P : Program} {w : World} {K : PySem.W.Frag} {mg : Str → Option Value} {base : Heap}
theorem sc_take_any : FnScope ["self", "pieces", "piece"] ["self", "pieces"] (defScope s_take_any) := ⟨rfl, rfl, rfl, by decide +kernel, rfl, by decide +kernel, by decide +kernel⟩
def sp_tany (K : PySem.W.Frag) (C : Addr) : Sp := fun vs H Q _ => ∃ (p t : Addr) (l r : List Nat) (i : Nat) (as bs : List Str) (z : Str), vs = [.ref p, .ref t] ∧ SqT K H t ((as ++ z :: bs).map V.str) ∧ RdAt C H p l i ∧ i ≤ l.length ∧ l.length ≤ 8000000 ∧
  (∀ a, a ∈ as → (wd a).isPrefixOf (l.drop i) = false) ∧ l.drop i = wd z ++ r ∧
  ∀ H', KeepR p H H' → RdAt C H' p l (i + (wd z).length) → l.drop (i + (wd z).length) = r → i + (wd z).length ≤ l.length → Q (.str z) H'
theorem ok_tany {f fn ft C : Addr} {fd dn dt : FuncData} {k : Nat} (F : Fun K "take_any" "Reader.take_any" s_take_any f fd) (T : RC K C) (Gn : FnOk P w K mg base CX0 k fn dn ["self", "piece"] (sp_next C)) (mn : Meth K C "is_next" fn) (bn : Binds K dn ["self", "piece"] [])
    (Gt : FnOk P w K mg base CX0 k ft dt ["self", "piece"] (sp_take C)) (mt : Meth K C "take" ft) (bt : Binds K dt ["self", "piece"] []) : FnOk P w K mg base CX0 (k + 1) f fd ["self", "pieces"] (sp_tany K C) := by
  have nd := sc_take_any.nd
  refine F.ok sc_take_any (fun vs H Q E h => ?_) (fun cdv A outer s H vs Q E hr h => ?_)
  · obtain ⟨p, t, l, r, i, as, bs, z, rfl, _⟩ := h
    rfl
  obtain ⟨p, t, l, r, i, as, bs, z, rfl, ht, ⟨dx, hp⟩, hi, hl, hno, hd, qq⟩ := h
  refine ⟨_, (pss_cons (ps_for PassesOwn.never rfl (pi_tup (pv 1)) (pg_name (i := 2) nd rfl (Or.inl rfl))
      (pss_one (ps_if (pt_val (pe_meth (pv 0) T.cl mn Gn hr bn .nil pass0 (pa_cons (pv 2) pa_nil)))
        (pss_cons (ps_expr (pe_meth (pv 0) T.cl mt Gt hr bt .nil pass0 (pa_cons (pv 2) pa_nil)))
        (pss_one (ps_ret (pv 2))))
        pss_nil)))
      (pss_one ps_never)), ?_⟩
  refine ⟨.ref t, rfl, t, rfl, ⟨_, ht⟩, ?_⟩
  refine for_it (walk_tup (xs := (as ++ z :: bs).map V.str)) (fun j σ H' => ∃ y, σ = [some (.ref p), some (.ref t), y] ∧ H' = H ∧ j ≤ as.length) ⟨none, rfl, rfl, Nat.zero_le _⟩ ?_ ?_ ?_
  · rintro j σ H' _ ⟨y, rfl, rfl, _⟩
    exact ht
  · rintro j x σ H0' H' hj ⟨y, rfl, rfl, hja⟩ ⟨rfl, hx⟩
    rw [List.getElem?_map] at hx
    obtain ⟨a, ha, rfl⟩ := Option.map_eq_some_iff.mp hx
    refine ⟨.ref p, rfl, p, dx, _, rfl, hp, fl_no _ _ (by decide +kernel) (by decide +kernel), .str a, rfl, p, l, wd a, i, by rw [S_wd]; rfl, ⟨dx, hp⟩, hi, _, rfl, ?_⟩
    by_cases hlt : j < as.length
    · rw [List.getElem?_append_left hlt] at ha
      rw [hno a (List.mem_of_getElem? ha)]
      exact iteF ⟨_, rfl, rfl, hlt⟩
    · have ej : j = as.length := by omega
      subst ej
      rw [List.getElem?_append_right (Nat.le_refl _), Nat.sub_self] at ha
      obtain rfl : z = a := Option.some.inj ha
      rw [hd, pre_app]
      refine iteT ⟨.ref p, rfl, p, dx, _, rfl, hp, fl_no _ _ (by decide +kernel) (by decide +kernel), .str z, rfl, p, l, wd z, r, i, by rw [S_wd]; rfl, ⟨dx, hp⟩, hi, hd, hl, fun H1 k1 r1 d1 l1 => ⟨.str z, rfl, qq H1 k1 r1 d1 l1⟩⟩
  · rintro σ H' ⟨y, rfl, rfl, hja⟩
    rw [List.length_map, List.length_append, List.length_cons] at hja
    omega
theorem sc_take_while : FnScope ["self", "signs", "start"] ["self", "signs"] (defScope s_take_while) := ⟨rfl, rfl, rfl, by decide +kernel, rfl, by decide +kernel, by decide +kernel⟩
def sp_twhile (C : Addr) : Sp := fun vs H Q _ => ∃ (p : Addr) (l u r : List Nat) (z : Str) (i : Nat), vs = [.ref p, .str z] ∧ RdAt C H p l i ∧ i ≤ l.length ∧ l.length ≤ 8000000 ∧ l.drop i = u ++ r ∧ (∀ c, c ∈ u → c ∈ wd z) ∧ nextIn z r = false ∧
  ∀ H', KeepR p H H' → RdAt C H' p l (i + u.length) → l.drop (i + u.length) = r → i + u.length ≤ l.length → Q (.str (S u)) H'
theorem ok_twhile {f fn C : Addr} {fd dn : FuncData} {k : Nat} (F : Fun K "take_while" "Reader.take_while" s_take_while f fd) (T : RC K C) (Gn : FnOk P w K mg base CX0 k fn dn ["self", "signs"] (sp_anext C)) (mn : Meth K C "is_any_next" fn) (bn : Binds K dn ["self", "signs"] []) : FnOk P w K mg base CX0 (k + 1) f fd ["self", "signs"] (sp_twhile C) := by
  have nd := sc_take_while.nd
  refine F.ok sc_take_while (fun vs H Q E h => ?_) (fun cdv A outer s H vs Q E hr h => ?_)
  · obtain ⟨p, l, u, r, z, i, rfl, _⟩ := h
    rfl
  obtain ⟨p, l, u, r, z, i, rfl, ⟨dx, hp⟩, hi, hl, hd, hu, hn, qq⟩ := h
  refine ⟨_, (pss_cons (ps_set (i := 2) nd rfl (.inl rfl) (pe_fld (pv 0) rfl))
      (pss_cons (ps_while PassesOwn.never (pt_val (pe_meth (pv 0) T.cl mn Gn hr bn .nil pass0 (pa_cons (pv 1) pa_nil)))
        (pss_one (ps_fldaug (pv 0) pe_int in_add)))
      (pss_one (ps_ret (pe_slice sl_str (pe_fld (pv 0) rfl) (po_some (pv 2)) (po_some (pe_fld (pv 0) rfl))))))), ?_⟩
  obtain ⟨d1, d2⟩ := drop_on hd hi
  refine ⟨.ref p, rfl, p, C, dx, _, _, rfl, hp, T.cl, T.nP, fl_place _ _, ?_⟩
  refine ⟨fun m σ H' => ∃ j, σ = [some (.ref p), some (.str z), some (.int (i : Int))] ∧ j + m = u.length ∧ H' p = some (.ins C dx (fl (S l) (i + j))) ∧ KeepR p H H', ⟨u.length, 0, rfl, Nat.zero_add _, hp, KeepR.refl⟩, ?_⟩
  rintro m σ H' ⟨j, rfl, hj, hp', kk⟩
  have hdj : l.drop (i + j) = u.drop j ++ r := by
    rw [← List.drop_drop, hd, List.drop_append_of_le_length (by omega)]
  refine ⟨.ref p, rfl, p, dx, _, rfl, hp', fl_no _ _ (by decide +kernel) (by decide +kernel), .str z, rfl, p, l, z, i + j, rfl, ⟨dx, hp'⟩, by omega, hl, _, rfl, ?_⟩
  rw [hdj]
  by_cases hjl : j < u.length
  · have hc : u.drop j = u[j] :: u.drop (j + 1) := List.drop_eq_getElem_cons hjl
    have : nextIn z (u.drop j ++ r) = true := by
      rw [hc]
      exact decide_eq_true (hu _ (List.getElem_mem hjl))
    rw [this]
    refine iteT ⟨fun σ' H'' => ∃ m', m' < m ∧ ∃ j', σ' = [some (.ref p), some (.str z), some (.int (i : Int))] ∧ j' + m' = u.length ∧ H'' p = some (.ins C dx (fl (S l) (i + j'))) ∧ KeepR p H H'', fun σ' H'' h => h, ?_⟩
    refine ⟨.ref p, rfl, p, C, dx, _, _, rfl, hp', T.cl, T.nP, fl_place _ _, ((i + j : Nat) : Int), 1, rfl, rfl, dx, _, hp', (by rw [fl_eq]; show 2 < 1000; decide), ?_⟩
    refine ⟨m - 1, by omega, j + 1, rfl, by omega, ?_, fun b o hb e => by rw [upd_ne hb]; exact kk b o hb e⟩
    rw [upd_same, show ((i + j : Nat) : Int) + 1 = ((i + (j + 1) : Nat) : Int) from rfl, fl_put]
  · have ej : j = u.length := by omega
    subst ej
    rw [List.drop_length, List.nil_append, hn]
    refine iteF ⟨.ref p, rfl, p, C, dx, _, _, rfl, hp', T.cl, T.nT, fl_text _ _, .int (i : Int), rfl, (i : Int), rfl, .ref p, rfl, p, C, dx, _, _, rfl, hp', T.cl, T.nP, fl_place _ _, ((i + u.length : Nat) : Int), rfl, S l, rfl, by rw [S_len, sizeLine_eq]; omega, ?_⟩
    rw [cut_at' (by omega) d2, hd, Nat.add_sub_cancel_left, List.take_left]
    exact qq H' kk ⟨dx, hp'⟩ d1 d2
theorem sc_take_word : FnScope ["self"] ["self"] (defScope s_take_word) := ⟨rfl, rfl, rfl, by decide +kernel, rfl, by decide +kernel, by decide +kernel⟩
def sp_tword (C : Addr) : Sp := fun vs H Q _ => ∃ (p : Addr) (l u r : List Nat) (i : Nat), vs = [.ref p] ∧ RdAt C H p l i ∧ i ≤ l.length ∧ l.length ≤ 8000000 ∧ l.drop i = u ++ r ∧ (∀ c, c ∈ u → c ∈ wd L26) ∧ nextIn L26 r = false ∧
  ∀ H', KeepR p H H' → RdAt C H' p l (i + u.length) → l.drop (i + u.length) = r → i + u.length ≤ l.length → Q (.str (S u)) H'
theorem ok_tword {f fn C : Addr} {fd dn : FuncData} {tk : Tok} {k : Nat} (F : Fun K "take_word" "Reader.take_word" s_take_word f fd) (T : RC K C) (Gn : FnOk P w K mg base CX0 k fn dn ["self", "signs"] (sp_twhile C)) (mn : Meth K C "take_while" fn) (bn : Binds K dn ["self", "signs"] []) (mL : mg "LETTERS" = some (.str L26 tk)) : FnOk P w K mg base CX0 (k + 1) f fd ["self"] (sp_tword C) := by
  refine F.ok sc_take_word (fun vs H Q E h => ?_) (fun cdv A outer s H vs Q E hr h => ?_)
  · obtain ⟨p, l, u, r, i, rfl, _⟩ := h
    rfl
  obtain ⟨p, l, u, r, i, rfl, ⟨dx, hp⟩, hi, hl, hd, hu, hn, qq⟩ := h
  refine ⟨_, (pss_one (ps_ret (pe_meth (pv 0) T.cl mn Gn hr bn .nil pass0 (pa_cons (pe_glob rfl mL (v := .str L26) ⟨tk, rfl⟩) pa_nil)))), ?_⟩
  exact ⟨.ref p, rfl, p, dx, _, rfl, hp, fl_no _ _ (by decide +kernel) (by decide +kernel), p, l, u, r, L26, i, rfl, ⟨dx, hp⟩, hi, hl, hd, hu, hn, qq⟩
theorem sc_take_name : FnScope ["self", "word"] ["self"] (defScope s_take_name) := ⟨rfl, rfl, rfl, by decide +kernel, rfl, by decide +kernel, by decide +kernel⟩
def sp_tname (C : Addr) : Sp := fun vs H Q _ => ∃ (p : Addr) (l r : List Nat) (z : Str) (i : Nat), vs = [.ref p] ∧ RdAt C H p l i ∧ i ≤ l.length ∧ l.length ≤ 8000000 ∧ Nm z ∧ l.drop i = wd z ++ r ∧ nextIn L26 r = false ∧
  ∀ H', KeepR p H H' → RdAt C H' p l (i + (wd z).length) → l.drop (i + (wd z).length) = r → i + (wd z).length ≤ l.length → Q (.str z) H'
theorem low_L26 {c : Nat} (h : Low c) : c ∈ wd L26 := by
  have : ∀ c, 97 ≤ c → c < 123 → decide (c ∈ wd L26) = true := by
    intro c h1 h2
    have hc : c = 97 ∨ c = 98 ∨ c = 99 ∨ c = 100 ∨ c = 101 ∨ c = 102 ∨ c = 103 ∨ c = 104 ∨ c = 105 ∨ c = 106 ∨ c = 107 ∨ c = 108 ∨ c = 109 ∨ c = 110 ∨ c = 111 ∨ c = 112 ∨ c = 113 ∨ c = 114 ∨ c = 115 ∨ c = 116 ∨ c = 117 ∨ c = 118 ∨ c = 119 ∨ c = 120 ∨ c = 121 ∨ c = 122 := by omega
    rcases hc with rfl | rfl | rfl | rfl | rfl | rfl | rfl | rfl | rfl | rfl | rfl | rfl | rfl | rfl | rfl | rfl | rfl | rfl | rfl | rfl | rfl | rfl | rfl | rfl | rfl | rfl <;> decide +kernel
  unfold Low at h
  exact of_decide_eq_true (this c h.1 (by omega))
theorem nm_low {z : Str} (h : Nm z) : ∀ c, c ∈ wd z → c ∈ wd L26 := fun c hc => low_L26 (h.2.2.1 c hc)
theorem nm_sh {z : Str} (h : Nm z) : Sh (.str z) := by
  intro z' e
  cases e
  have h1 := h.2.1
  rw [Array.length_toList] at h1
  exact ⟨show z.cps.size ≤ 1000 by omega, so_iff.mpr (ok_so (nm_okC h))⟩
theorem ok_tname {f fw fn C : Addr} {fd dw dn : FuncData} {k : Nat} (F : Fun K "take_name" "Reader.take_name" s_take_name f fd) (T : RC K C) (Gw : FnOk P w K mg base CX0 k fw dw ["self"] (sp_tword C)) (mw : Meth K C "take_word" fw) (bw : Binds K dw ["self"] [])
    (Gn : FnOk P w K mg base CX0 k fn dn ["thing"] (sp_isS K isN)) (gn : mg "is_name" = some (.ref fn)) (Kn : PySem.W.keepIn K (.ref fn) = true) (bn : Binds K dn ["thing"] []) : FnOk P w K mg base CX0 (k + 1) f fd ["self"] (sp_tname C) := by
  have nd := sc_take_name.nd
  refine F.ok sc_take_name (fun vs H Q E h => ?_) (fun cdv A outer s H vs Q E hr h => ?_)
  · obtain ⟨p, l, r, z, i, rfl, _⟩ := h
    rfl
  obtain ⟨p, l, r, z, i, rfl, ⟨dx, hp⟩, hi, hl, hz, hd, hn, qq⟩ := h
  refine ⟨_, (pss_cons (ps_set (i := 1) nd rfl (.inl rfl) (pe_meth0 (pv 0) T.cl mw Gw hr bw .nil pass0))
      (pss_cons (ps_if (pt_not (pt_val (pe_call Gn hr (by rfl) gn Kn bn .nil pass0 (pa_cons (pv 1) pa_nil)))) (pss_one ps_never) pss_nil)
      (pss_one (ps_ret (pv 1))))), ?_⟩
  refine ⟨.ref p, rfl, p, dx, _, rfl, hp, fl_no _ _ (by decide +kernel) (by decide +kernel), p, l, wd z, r, i, rfl, ⟨dx, hp⟩, hi, hl, hd, nm_low hz, hn, fun H1 k1 r1 d1 l1 => ?_⟩
  rw [S_wd]
  refine ⟨.str z, rfl, .str z, .str z, F0, rfl, .str z, nm_sh hz, fun H2 s2 => ⟨_, rfl, ?_⟩⟩
  rw [isN_nm hz]
  obtain ⟨dx1, hp1⟩ := r1
  exact iteF ⟨.str z, rfl, qq H2 (k1.trans (KeepR.of s2)) ⟨dx1, s2 _ _ hp1⟩ d1 l1⟩
theorem sc_take_value : FnScope ["self", "start", "digits", "text", "number"] ["self"] (defScope s_take_value) := ⟨rfl, rfl, rfl, by decide +kernel, rfl, by decide +kernel, by decide +kernel⟩
abbrev DG : Str := "0123456789"
theorem dg_mem {c : Nat} : isD c = true → c ∈ wd DG := fun h => by
  have h' : 48 ≤ c ∧ c ≤ 57 := by
    rw [Bool.and_eq_true, decide_eq_true_eq, decide_eq_true_eq] at h
    exact h
  have : c = 48 ∨ c = 49 ∨ c = 50 ∨ c = 51 ∨ c = 52 ∨ c = 53 ∨ c = 54 ∨ c = 55 ∨ c = 56 ∨ c = 57 := by omega
  rcases this with rfl | rfl | rfl | rfl | rfl | rfl | rfl | rfl | rfl | rfl <;> decide +kernel
def sp_tvalue (C : Addr) : Sp := fun vs H Q _ => ∃ (p : Addr) (l r : List Nat) (v : Int) (i : Nat), vs = [.ref p] ∧ RdAt C H p l i ∧ i ≤ l.length ∧ l.length ≤ 8000000 ∧ -(10 ^ 18) ≤ v ∧ v ≤ 10 ^ 18 ∧ l.drop i = num v ++ r ∧ nextIn DG r = false ∧
  ∀ H', KeepR p H H' → RdAt C H' p l (i + (num v).length) → l.drop (i + (num v).length) = r → i + (num v).length ≤ l.length → Q (.int v) H'
theorem ok_tvalue {f fn ft fw fv C : Addr} {fd dn dt dw dv : FuncData} {td tk : Tok} {k : Nat} (F : Fun K "take_value" "Reader.take_value" s_take_value f fd) (T : RC K C) (Gn : FnOk P w K mg base CX0 k fn dn ["self", "piece"] (sp_next C)) (mn : Meth K C "is_next" fn) (bn : Binds K dn ["self", "piece"] [])
    (Gt : FnOk P w K mg base CX0 k ft dt ["self", "piece"] (sp_take C)) (mt : Meth K C "take" ft) (bt : Binds K dt ["self", "piece"] [])
    (Gw : FnOk P w K mg base CX0 k fw dw ["self", "signs"] (sp_twhile C)) (mw : Meth K C "take_while" fw) (bw : Binds K dw ["self", "signs"] [])
    (Gv : FnOk P w K mg base CX0 k fv dv ["thing"] (sp_is K isV)) (gv : mg "is_value" = some (.ref fv)) (Kv : PySem.W.keepIn K (.ref fv) = true) (bv : Binds K dv ["thing"] [])
    (mD : mg "DIGITS" = some (.str DG td)) (mL : mg "LONGEST_VALUE" = some (.int 20 tk)) (mlen : mg "len" = none) (mint : mg "int" = none) (mstr : mg "str" = none) : FnOk P w K mg base CX0 (k + 1) f fd ["self"] (sp_tvalue C) := by
  have nd := sc_take_value.nd
  refine F.ok sc_take_value (fun vs H Q E h => ?_) (fun cdv A outer s H vs Q E hr h => ?_)
  · obtain ⟨p, l, r, v, i, rfl, _⟩ := h
    rfl
  obtain ⟨p, l, r, v, i, rfl, ⟨dx, hp⟩, hi, hl, h1, h2, hd, hn, qq⟩ := h
  refine ⟨_, (pss_cons (ps_set (i := 1) nd rfl (.inl rfl) (pe_fld (pv 0) rfl))
      (Evl.pss_cut (ps_if (pt_val (pe_meth (pv 0) T.cl mn Gn hr bn .nil pass0 (pa_cons pe_str pa_nil))) (pss_one (ps_expr (pe_meth (pv 0) T.cl mt Gt hr bt .nil pass0 (pa_cons pe_str pa_nil)))) pss_nil)
      (pss_cons (ps_set (i := 2) nd rfl (.inl rfl) (pe_meth (pv 0) T.cl mw Gw hr bw .nil pass0 (pa_cons (pe_glob rfl mD (v := .str DG) ⟨td, rfl⟩) pa_nil)))
      (pss_cons (ps_set (i := 3) nd rfl (.inl rfl) (pe_slice sl_str (pe_fld (pv 0) rfl) (po_some (pv 1)) (po_some (pe_fld (pv 0) rfl))))
      (pss_cons (ps_if (PW.pt (pw_or (pt_not (pt_truth (pv 2) (fun _ => rfl))) (pw_or1 (pt_cmpR op_gt (pe_callB call_len_str (by rfl) mlen PySem.boot_len (pa_cons (pv 3) pa_nil)) (pe_glob rfl mL (v := .int 20) ⟨tk, rfl⟩) (nomark _))))) (pss_one ps_never) pss_nil)
      (pss_cons (ps_set (i := 4) nd rfl (.inl rfl) (pe_callTy call_int_str (by rfl) mint boot_int (pa_cons (pv 3) pa_nil)))
      (pss_cons (ps_if (PW.pt (pw_or (pt_cmpR op_ne (pe_callTy call_str_int (by rfl) mstr boot_str (pa_cons (pv 4) pa_nil)) (pv 3) (nomark _)) (pw_or1 (pt_not (pt_val (pe_call Gv hr (by rfl) gv Kv bv .nil pass0 (pa_cons (pv 4) pa_nil))))))) (pss_one ps_never) pss_nil)
      (pss_one (ps_ret (pv 4)))))))))), ?_⟩
  have no := fun (m : Str) (g1 : ¬ m = "place") (g2 : ¬ m = "text") => fl_no (S l) i g1 g2
  obtain ⟨ng, ds, hnum, hne, hds⟩ := num_form v
  obtain ⟨dA, lA⟩ := drop_on hd hi
  refine ⟨.ref p, rfl, p, C, dx, _, _, rfl, hp, T.cl, T.nP, fl_place _ _, ?_⟩
  -- the sign
  refine ⟨fun σ' H' => ∃ j, σ' = [some (.ref p), some (.int (i : Int)), none, none, none] ∧ KeepR p H H' ∧ RdAt C H' p l j ∧ l.drop j = ds ++ r ∧ i ≤ j ∧ j ≤ l.length ∧ j + ds.length = i + (num v).length, ?_, ?_⟩
  · refine ⟨.ref p, rfl, p, dx, _, rfl, hp, fl_no _ _ (by decide +kernel) (by decide +kernel), p, l, [45], i, rfl, ⟨dx, hp⟩, hi, _, rfl, ?_⟩
    rw [hd, hnum]
    cases ng with
    | true =>
      have e : (if true = true then [45] else []) ++ ds ++ r = [45] ++ (ds ++ r) := rfl
      rw [e, pre_app]
      refine iteT ⟨.ref p, rfl, p, dx, _, rfl, hp, fl_no _ _ (by decide +kernel) (by decide +kernel), p, l, [45], ds ++ r, i, rfl, ⟨dx, hp⟩, hi, by rw [hd, hnum]; rfl, hl, fun H1 k1 r1 d1 l1 => ⟨i + 1, rfl, k1, r1, d1, by omega, l1, ?_⟩⟩
      show i + 1 + ds.length = i + ([45] ++ ds).length
      rw [List.length_append, List.length_singleton]
      omega
    | false =>
      cases ds with
      | nil => exact absurd rfl hne
      | cons c ds =>
        have hc : isD c = true := by
          rw [List.all_cons, Bool.and_eq_true] at hds
          exact hds.1
        have e : ([45] : List Nat).isPrefixOf ((if false = true then [45] else []) ++ c :: ds ++ r) = false := by
          show ((45 == c) && true) = false
          rw [Bool.and_true]
          cases h45 : (45 == c) with
          | false => rfl
          | true =>
            have : c = 45 := (eq_of_beq h45).symm
            subst this
            exact absurd hc (by decide)
        rw [e]
        exact iteF ⟨i, rfl, KeepR.refl, ⟨dx, hp⟩, by rw [hd, hnum]; rfl, Nat.le_refl _, hi, rfl⟩
  rintro σ1 H1 ⟨j, rfl, k1, ⟨dx1, hp1⟩, hdj, hij, hjl, hje⟩
  refine ⟨.ref p, rfl, p, dx1, _, rfl, hp1, fl_no _ _ (by decide +kernel) (by decide +kernel), p, l, ds, r, DG, j, rfl, ⟨dx1, hp1⟩, hjl, hl, hdj, fun c hc => dg_mem (List.all_eq_true.mp hds c hc), hn, fun H2 k2 r2 d2 l2 => ?_⟩
  obtain ⟨dx2, hp2⟩ := r2
  rw [hje] at hp2 d2 l2
  refine ⟨.ref p, rfl, p, C, dx2, _, _, rfl, hp2, T.cl, T.nT, fl_text _ _, .int (i : Int), rfl, (i : Int), rfl, .ref p, rfl, p, C, dx2, _, _, rfl, hp2, T.cl, T.nP, fl_place _ _, ((i + (num v).length : Nat) : Int), rfl, S l, rfl, by rw [S_len, sizeLine_eq]; omega, ?_⟩
  rw [cut_at' (by omega) l2, hd, Nat.add_sub_cancel_left, List.take_left]
  have hnl := num_len h1 h2
  have hdl : 1 ≤ ds.length := List.length_pos_iff.mpr hne
  have hdl2 : ds.length ≤ 20 := by
    have := congrArg List.length hnum
    rw [List.length_append] at this
    omega
  refine ⟨.str (S ds), rfl, true, ⟨by rw [S_len, sizeLine_eq]; omega, ?_⟩, ?_⟩
  · rw [S_len]
    symm
    rw [bne_iff_ne]
    omega
  refine iteF ⟨.str (S (num v)), rfl, S (num v), rfl, by rw [S_len, sizeLine_eq]; omega, ((S (num v)).length : Int), 20, rfl, rfl, _, rfl, ?_⟩
  rw [decide_eq_false (show ¬ (20 : Int) < ((S (num v)).length : Int) by rw [S_len]; omega)]
  refine iteF ⟨.str (S (num v)), rfl, S (num v), v, rfl, num_read h1 h2, by rw [S_len]; omega, .int v, rfl, v, rfl, ?_, ?_⟩
  · by_cases e0 : v.natAbs = 0
    · rw [e0]; decide
    · exact (Nat.log2_lt e0).mpr (Nat.lt_of_le_of_lt (show v.natAbs ≤ 10 ^ 18 by omega) (Nat.lt_of_lt_of_le (show 10 ^ 18 < 2 ^ 60 by decide) (Nat.pow_le_pow_right (by decide) (by decide))))
  refine ⟨.str (S (num v)), rfl, rfl, _, rfl, ?_⟩
  rw [show PySem.Str.ofString (toString v) = S (num v) from str_num v, show (!decide (V.str (S (num v)) = V.str (S (num v)))) = false by rw [decide_eq_true rfl]; rfl]
  refine iteF ⟨.int v, rfl, .int v, .int v, F0, rfl, .int v, _, rfl, ?_⟩
  rw [isV_ok h1 h2]
  exact iteF ⟨.int v, rfl, qq H2 (k1.trans k2) ⟨dx2, hp2⟩ d2 l2⟩
theorem sc_take_end : FnScope ["self"] ["self"] (defScope s_take_end) := ⟨rfl, rfl, rfl, by decide +kernel, rfl, by decide +kernel, by decide +kernel⟩
def sp_tend (C : Addr) : Sp := fun vs H Q _ => ∃ (p : Addr) (l : List Nat), vs = [.ref p] ∧ RdAt C H p l l.length ∧ l.length ≤ 8000000 ∧ Q .non H
theorem ok_tend {f C : Addr} {fd : FuncData} {k : Nat} (F : Fun K "take_end" "Reader.take_end" s_take_end f fd) (T : RC K C) (mlen : mg "len" = none) : FnOk P w K mg base CX0 (k + 1) f fd ["self"] (sp_tend C) := by
  refine F.ok sc_take_end (fun vs H Q E h => ?_) (fun cdv A outer s H vs Q E hr h => ?_)
  · obtain ⟨p, l, rfl, _⟩ := h
    rfl
  obtain ⟨p, l, rfl, ⟨dx, hp⟩, hl, qq⟩ := h
  refine ⟨_, (pss_one (ps_if (pt_cmpR op_ne (pe_fld (pv 0) rfl) (pe_callB call_len_str (by rfl) mlen PySem.boot_len (pa_cons (pe_fld (pv 0) rfl) pa_nil)) (nomark _)) (pss_one ps_never) pss_nil)), ?_⟩
  refine ⟨_, rfl, p, C, dx, _, _, rfl, hp, T.cl, T.nP, fl_place _ _, _, rfl, p, C, dx, _, _, rfl, hp, T.cl, T.nT, fl_text _ _, S l, rfl, by rw [S_len, sizeLine_eq]; omega, rfl, _, rfl, ?_⟩
  rw [S_len, show (!decide (V.int (l.length : Int) = V.int (l.length : Int))) = false by rw [decide_eq_true rfl]; rfl]
  exact iteF qq
end
end K7

/-! the texts of expressions are shown -/
namespace K7
open PySem PySem.Spec PyProof.Rows L2 GR AD RZ WX ZE TX RVT
open SX (S S_cat S_len S_inj)
open _root_.StX (pa_star)
theorem kf0 {H H' : Hp} (k : KeepT H H') : KeepO F0 H H' := ⟨k.1, k.2, fun _ _ h => h.elim⟩
/-! pieces -/
inductive Pc : PyData → List Nat → Prop
  | str (z : Str) : Pc (.str z) (wd z)
  | ex (n : Nat) (d : PyData) (l : List Nat) : Tx n d l → Pc d l
inductive PcL : List PyData → List Nat → Prop
  | nil : PcL [] []
  | cons {x : PyData} {xs : List PyData} {l m : List Nat} : Pc x l → PcL xs m → PcL (x :: xs) (l ++ m)
theorem PcL.app : ∀ {xs ys : List PyData} {l m : List Nat}, PcL xs l → PcL ys m → PcL (xs ++ ys) (l ++ m)
  | _, _, _, _, .nil, h => h
  | _, _, _, _, .cons a t, h => by rw [List.cons_append, List.append_assoc]; exact .cons a (t.app h)
theorem PcL.one {x : PyData} {l : List Nat} (h : Pc x l) : PcL [x] l := by
  have := PcL.cons h .nil
  rwa [List.append_nil] at this
theorem PcL.snoc {xs : List PyData} {x : PyData} {m : List Nat} : PcL (xs ++ [x]) m → ∃ l1 l2, m = l1 ++ l2 ∧ PcL xs l1 ∧ Pc x l2 := by
  induction xs generalizing m with
  | nil =>
    intro h
    cases h with
    | cons a t =>
      cases t
      exact ⟨[], _, by rw [List.append_nil]; rfl, .nil, a⟩
  | cons y ys ih =>
    intro h
    cases h with
    | cons a t =>
      obtain ⟨l1, l2, rfl, h1, h2⟩ := ih t
      exact ⟨_ ++ l1, l2, by rw [List.append_assoc], .cons a h1, h2⟩
/-- how much is to be done -/
def ms : PyData → Nat
  | .tuple ds => 8 * sz (.tuple ds)
  | _ => 1
def mss (ds : List PyData) : Nat := (ds.map ms).sum
theorem mss_app (xs ys : List PyData) : mss (xs ++ ys) = mss xs + mss ys := by
  unfold mss
  rw [List.map_append, List.sum_append]
theorem mss_one (x : PyData) : mss [x] = ms x := by
  unfold mss
  rw [List.map_cons, List.map_nil, List.sum_cons, List.sum_nil, Nat.add_zero]
theorem mss_cons (x : PyData) (xs : List PyData) : mss (x :: xs) = ms x + mss xs := by
  unfold mss
  rw [List.map_cons, List.sum_cons]
theorem ms_le (x : PyData) : 1 ≤ ms x ∧ ms x ≤ 8 * sz x := by
  have := sz_pos x
  unfold ms
  split <;> omega
theorem mss_len : ∀ xs : List PyData, xs.length ≤ mss xs
  | [] => Nat.zero_le _
  | x :: xs => by
    have := mss_len xs
    have := (ms_le x).1
    rw [mss_cons, List.length_cons]
    omega
theorem mss_le : ∀ xs : List PyData, mss xs ≤ 8 * szs xs
  | [] => Nat.zero_le _
  | x :: xs => by
    have := mss_le xs
    have := (ms_le x).2
    rw [mss_cons, szs]
    omega
theorem mss_rev : ∀ xs : List PyData, mss xs.reverse = mss xs
  | [] => rfl
  | x :: xs => by rw [List.reverse_cons, mss_app, mss_rev xs, mss_one, mss_cons, Nat.add_comm]
/-- with commas between -/
def wcV (u : V) (us : List V) : List V := u :: us.flatMap fun v => [.str ", ", v]
def wcD (x : PyData) (xs : List PyData) : List PyData := x :: xs.flatMap fun y => [.str ", ", y]
theorem wc_dd {K : PySem.W.Frag} {ok : Addr → Prop} {H : Hp} {u : V} {x : PyData} (hu : Dd K ok H u x) : ∀ {us : List V} {xs : List PyData}, DdAll K ok H us xs → DdAll K ok H (us.flatMap fun v => [.str ", ", v]) (xs.flatMap fun y => [.str ", ", y])
  | _, _, .nil => .nil
  | _, _, .cons a t => by
    rw [List.flatMap_cons, List.flatMap_cons]
    exact .cons (.str _) (.cons a (wc_dd hu t))
theorem wc_mss (x : PyData) (xs : List PyData) : mss (wcD x xs) = ms x + mss xs + xs.length := by
  unfold wcD
  rw [mss_cons]
  have : ∀ ys : List PyData, mss (ys.flatMap fun y => [.str ", ", y]) = mss ys + ys.length := fun ys => by
    induction ys with
    | nil => rfl
    | cons y ys ih =>
      rw [List.flatMap_cons, mss_app, ih, mss_cons, mss_one, mss_cons, List.length_cons]
      show 1 + ms y + _ = _
      omega
  rw [this]
  omega
theorem wc_pc : ∀ {xs : List PyData} {ls : List (List Nat)} {x : PyData} {l : List Nat}, Pc x l → xs.length = ls.length → (∀ p, p ∈ xs.zip ls → Pc p.1 p.2) → PcL (wcD x xs) (commas (l :: ls))
  | [], [], x, l, h, _, _ => PcL.one h
  | [], _ :: _, _, _, _, h, _ => by cases h
  | _ :: _, [], _, _, _, h, _ => by cases h
  | y :: ys, m :: ms', x, l, h, hl, ha => by
    have ih := wc_pc (xs := ys) (ls := ms') (ha (y, m) (by rw [List.zip_cons_cons]; exact List.mem_cons_self)) (by simpa using hl) fun p hp => ha p (by rw [List.zip_cons_cons]; exact List.mem_cons_of_mem _ hp)
    show PcL (x :: (.str ", " :: wcD y ys)) (l ++ ([44, 32] ++ commas (m :: ms')))
    exact .cons h (.cons (.str ", ") ih)
theorem wc_len (u : V) (us : List V) : (wcV u us).length = 1 + 2 * us.length := by
  unfold wcV
  rw [List.length_cons]
  have : ∀ vs : List V, (vs.flatMap fun v => [V.str ", ", v]).length = 2 * vs.length := fun vs => by
    induction vs with
    | nil => rfl
    | cons v vs ih => rw [List.flatMap_cons, List.length_append, ih, List.length_cons, List.length_cons]; simp; omega
  rw [this]
  omega
theorem cut_1 {x : V} {r : List V} : cutV (x :: r) (some 1) none = r := by
  unfold cutV
  rw [HT.sIx_none, show HT.sIx (x :: r).length 0 (some 1) = min 1 (x :: r).length from HT.sIx_nat _ _ 1, List.length_cons, show min 1 (r.length + 1) = 1 by omega, List.drop_succ_cons, List.drop_zero, show r.length + 1 - 1 = r.length by omega, List.take_length]
theorem no_1 {x : V} {r : List V} : ¬ (HT.sIx (x :: r).length 0 (some 1) = 0 ∧ HT.sIx (x :: r).length (x :: r).length none = (x :: r).length) := fun h => by
  have := h.1
  rw [show (some (1 : Int)) = some ((1 : Nat) : Int) from rfl, HT.sIx_nat, List.length_cons] at this
  omega
theorem cut_4 {x y z u : V} {r : List V} : cutV (x :: y :: z :: u :: r) (some 4) none = r := by
  unfold cutV
  rw [HT.sIx_none, show HT.sIx (x :: y :: z :: u :: r).length 0 (some 4) = min 4 (x :: y :: z :: u :: r).length from HT.sIx_nat _ _ 4, List.length_cons, List.length_cons, List.length_cons, List.length_cons, show min 4 (r.length + 1 + 1 + 1 + 1) = 4 by omega]
  show r.take (r.length + 4 - 4) = r
  rw [Nat.add_sub_cancel, List.take_length]
theorem no_4 {x y z u : V} {r : List V} : ¬ (HT.sIx (x :: y :: z :: u :: r).length 0 (some 4) = 0 ∧ HT.sIx (x :: y :: z :: u :: r).length (x :: y :: z :: u :: r).length none = (x :: y :: z :: u :: r).length) := fun h => by
  have := h.1
  rw [show (some (4 : Int)) = some ((4 : Nat) : Int) from rfl, HT.sIx_nat, List.length_cons, List.length_cons, List.length_cons, List.length_cons] at this
  omega
section
variable {P : Program} {w : World} {K : PySem.W.Frag} {mg : Str → Option Value} {base : Heap}
abbrev s_with_commas : Stmt := topS 25
theorem sc_with_commas : FnScope ["pieces", "found", "piece"] ["pieces"] (defScope s_with_commas) := ⟨rfl, rfl, rfl, by decide +kernel, rfl, by decide +kernel, by decide +kernel⟩
def sp_wcL (K : PySem.W.Frag) : Sp := fun vs H Q _ => ∃ (a : Addr) (u : V) (us : List V), vs = [.ref a] ∧ SqL K H a (u :: us) ∧ us.length ≤ 400 ∧ ∀ H' L, Same H H' → H L = none → H' L = some (.lst (wcV u us)) → Q (.ref L) H'
theorem ok_wcL {f : Addr} {fd : FuncData} {k : Nat} (F : Fun K "with_commas" "with_commas" s_with_commas f fd) : FnOk P w K mg base CX0 (k + 1) f fd ["pieces"] (sp_wcL K) := by
  have nd := sc_with_commas.nd
  refine F.ok sc_with_commas (fun vs H Q E h => ?_) (fun cdv A outer s H vs Q E hr h => ?_)
  · obtain ⟨a, u, us, rfl, _⟩ := h
    rfl
  obtain ⟨a, u, us, rfl, hS, hl, q⟩ := h
  refine ⟨_, (pss_cons (ps_set (i := 1) nd rfl (.inl rfl) (pe_lst (pa_cons (pe_ix ix_list (pv 0) pe_int (fun _ _ => rfl)) pa_nil)))
      (pss_cons (ps_for PassesOwn.never rfl (pi_list (pe_slice sl_list (pv 0) (po_some pe_int) po_none)) (pg_name (i := 2) nd rfl (Or.inl rfl))
      (pss_cons (ps_expr (pe_bm PySem.F.plainAttrs_list PySem.F.slot_list_append PySem.F.type_list_append mt_append (pv 1) (pa_cons pe_str pa_nil)))
        (pss_one (ps_expr (pe_bm PySem.F.plainAttrs_list PySem.F.slot_list_append PySem.F.type_list_append mt_append (pv 1) (pa_cons (pv 2) pa_nil))))))
      (pss_one (ps_ret (pv 1))))), ?_⟩
  refine ⟨.ref a, rfl, a, _, 0, u, rfl, rfl, hS, at0, small_le (Nat.le_of_ble_eq_true rfl), fun L nL => ?_⟩
  have s1 := same_upd (o := .lst [u]) nL
  refine ⟨.ref a, rfl, 1, rfl, a, _, rfl, s1.seq hS, fun c nc => ?_⟩
  rw [cut_1]
  have s2 := same_upd (o := .lst us) nc
  have hL : upd (upd H L (.lst [u])) c (.lst us) L = some (.lst [u]) := s2 _ _ upd_same
  have hc : upd (upd H L (.lst [u])) c (.lst us) c = some (.lst us) := upd_same
  have hcL : c ≠ L := (ne_of_none (show upd H L (.lst [u]) L = some (.lst [u]) from upd_same) nc).symm
  have s12 := s1.trans s2
  revert hL hc s12
  generalize upd (upd H L (.lst [u])) c (.lst us) = H2
  intro hL hc s12
  refine ⟨c, rfl, ⟨_, .inl (.inl hc)⟩, ?_⟩
  refine for_it (walk_list (xs := us)) (fun j σ H' => ∃ y, σ = [some (.ref a), some (.ref L), y] ∧ H' L = some (.lst (wcV u (us.take j))) ∧ ∀ b o, b ≠ L → H2 b = some o → H' b = some o) ⟨none, rfl, hL, fun b o _ e => e⟩ ?_ ?_ ?_
  · rintro j σ H' _ ⟨y, rfl, _, kk⟩
    exact .inl (.inl (kk _ _ hcL hc))
  · rintro j x σ H0' H' hj ⟨y, rfl, hL', kk⟩ ⟨rfl, hx⟩
    refine ⟨.ref L, rfl, .inl ⟨rfl, _, .inl (.inl hL')⟩, L, _, .str ", ", rfl, rfl, hL', ?_, ?_⟩
    · rw [wc_len, List.length_take]
      exact small1000 (by omega)
    refine ⟨.ref L, rfl, .inl ⟨rfl, _, .inl (.inl upd_same)⟩, x, rfl, L, _, x, rfl, rfl, upd_same, ?_, _, rfl, ?_, fun b o hb e => ?_⟩
    · rw [List.length_append, wc_len, List.length_take]
      exact small1000 (by simp; omega)
    · rw [upd_same, take_at hx]
      unfold wcV
      rw [List.flatMap_append, List.flatMap_cons, List.flatMap_nil, List.append_nil, List.cons_append, List.cons_append, List.append_assoc]
      rfl
    · rw [upd_ne hb, upd_ne hb]
      exact kk b o hb e
  · rintro σ H' ⟨y, rfl, hL', kk⟩
    rw [List.take_length] at hL'
    exact ⟨.ref L, rfl, q H' L (fun b o e => kk b o (ne_of_none e nL) (s12 _ _ e)) nL hL'⟩
def sp_wcT (K : PySem.W.Frag) : Sp := fun vs H Q _ => ∃ (a : Addr) (u : V) (us : List V), vs = [.ref a] ∧ SqT K H a (u :: us) ∧ us.length ≤ 400 ∧ ∀ H' L, Same H H' → H L = none → H' L = some (.lst (wcV u us)) → Q (.ref L) H'
theorem ok_wcT {f : Addr} {fd : FuncData} {k : Nat} (F : Fun K "with_commas" "with_commas" s_with_commas f fd) : FnOk P w K mg base CX0 (k + 1) f fd ["pieces"] (sp_wcT K) := by
  have nd := sc_with_commas.nd
  refine F.ok sc_with_commas (fun vs H Q E h => ?_) (fun cdv A outer s H vs Q E hr h => ?_)
  · obtain ⟨a, u, us, rfl, _⟩ := h
    rfl
  obtain ⟨a, u, us, rfl, hS, hl, q⟩ := h
  refine ⟨_, (pss_cons (ps_set (i := 1) nd rfl (.inl rfl) (pe_lst (pa_cons (pe_ix ix_tup (pv 0) pe_int (fun _ _ => rfl)) pa_nil)))
      (pss_cons (ps_for PassesOwn.never rfl (pi_tup (pe_slice L2.sl_tup (pv 0) (po_some pe_int) po_none)) (pg_name (i := 2) nd rfl (Or.inl rfl))
      (pss_cons (ps_expr (pe_bm PySem.F.plainAttrs_list PySem.F.slot_list_append PySem.F.type_list_append mt_append (pv 1) (pa_cons pe_str pa_nil)))
        (pss_one (ps_expr (pe_bm PySem.F.plainAttrs_list PySem.F.slot_list_append PySem.F.type_list_append mt_append (pv 1) (pa_cons (pv 2) pa_nil))))))
      (pss_one (ps_ret (pv 1))))), ?_⟩
  refine ⟨.ref a, rfl, a, _, 0, u, rfl, rfl, hS, at0, small_le (Nat.le_of_ble_eq_true rfl), fun L nL => ?_⟩
  have s1 := same_upd (o := .lst [u]) nL
  refine ⟨.ref a, rfl, 1, rfl, a, _, rfl, (KeepT.of s1).seqt hS, no_1, fun c nc => ?_⟩
  rw [cut_1]
  have s2 := same_upd (o := .tup us) nc
  have hL : upd (upd H L (.lst [u])) c (.tup us) L = some (.lst [u]) := s2 _ _ upd_same
  have hc : upd (upd H L (.lst [u])) c (.tup us) c = some (.tup us) := upd_same
  have hcL : c ≠ L := (ne_of_none (show upd H L (.lst [u]) L = some (.lst [u]) from upd_same) nc).symm
  have s12 := s1.trans s2
  revert hL hc s12
  generalize upd (upd H L (.lst [u])) c (.tup us) = H2
  intro hL hc s12
  refine ⟨c, rfl, ⟨_, .inl (.inl hc)⟩, ?_⟩
  refine for_it (walk_tup (xs := us)) (fun j σ H' => ∃ y, σ = [some (.ref a), some (.ref L), y] ∧ H' L = some (.lst (wcV u (us.take j))) ∧ ∀ b o, b ≠ L → H2 b = some o → H' b = some o) ⟨none, rfl, hL, fun b o _ e => e⟩ ?_ ?_ ?_
  · rintro j σ H' _ ⟨y, rfl, _, kk⟩
    exact .inl (.inl (kk _ _ hcL hc))
  · rintro j x σ H0' H' hj ⟨y, rfl, hL', kk⟩ ⟨rfl, hx⟩
    refine ⟨.ref L, rfl, .inl ⟨rfl, _, .inl (.inl hL')⟩, L, _, .str ", ", rfl, rfl, hL', ?_, ?_⟩
    · rw [wc_len, List.length_take]
      exact small1000 (by omega)
    refine ⟨.ref L, rfl, .inl ⟨rfl, _, .inl (.inl upd_same)⟩, x, rfl, L, _, x, rfl, rfl, upd_same, ?_, _, rfl, ?_, fun b o hb e => ?_⟩
    · rw [List.length_append, wc_len, List.length_take]
      exact small1000 (by simp; omega)
    · rw [upd_same, take_at hx]
      unfold wcV
      rw [List.flatMap_append, List.flatMap_cons, List.flatMap_nil, List.append_nil, List.cons_append, List.cons_append, List.append_assoc]
      rfl
    · rw [upd_ne hb, upd_ne hb]
      exact kk b o hb e
  · rintro σ H' ⟨y, rfl, hL', kk⟩
    rw [List.take_length] at hL'
    exact ⟨.ref L, rfl, q H' L (fun b o e => kk b o (ne_of_none e nL) (s12 _ _ e)) nL hL'⟩
abbrev s_pieces_of : Stmt := topS 24
theorem sc_pieces_of : FnScope ["expression", "word"] ["expression"] (defScope s_pieces_of) := ⟨rfl, rfl, rfl, by decide +kernel, rfl, by decide +kernel, by decide +kernel⟩
def sp_pieces (K : PySem.W.Frag) : Sp := fun vs H Q _ => ∃ (v : V) (n : Nat) (d : PyData) (l : List Nat), vs = [v] ∧ Dd K F0 H v d ∧ Tx n d l ∧ ∀ H' L us ps, Same H H' → H L = none → H' L = some (.lst us) → DdAll K F0 H' us ps → PcL ps l → mss ps < ms d → Q (.ref L) H'
theorem ok_pieces {f fl ft aO aG : Addr} {fd dl dt : FuncData} {k : Nat} (F : Fun K "pieces_of" "pieces_of" s_pieces_of f fd) (Gl : FnOk P w K mg base CX0 k fl dl ["pieces"] (sp_wcL K)) (Gt : FnOk P w K mg base CX0 k fl dl ["pieces"] (sp_wcT K)) (gl : mg "with_commas" = some (.ref fl)) (Kl : PySem.W.keepIn K (.ref fl) = true) (bl : Binds K dl ["pieces"] [])
    (mO : mg "OPERATIONS" = some (.ref aO)) (TO : KTx K aO ops5) (mG : mg "AGGREGATES" = some (.ref aG)) (TG : KTx K aG aggW) (mstr : mg "str" = none) : FnOk P w K mg base CX0 (k + 1) f fd ["expression"] (sp_pieces K) := by
  have nd := sc_pieces_of.nd
  refine F.ok sc_pieces_of (fun vs H Q E h => ?_) (fun cdv A outer s H vs Q E hr h => ?_)
  · obtain ⟨v, n, d, l, rfl, _⟩ := h
    rfl
  obtain ⟨v, n, d, l, rfl, hd, ht, q⟩ := h
  refine ⟨_, (pss_cons (ps_set (i := 1) nd rfl (.inl rfl) (pe_ix ix_tup (pv 0) pe_int (fun _ _ => rfl)))
      (pss_cons (ps_if (pt_cmpR op_eq (pv 1) pe_str (nomark _))
      (pss_one (ps_ret (pe_lst (pa_cons pe_str pa_nil))))
      pss_nil)
      (pss_cons (ps_if (pt_cmpR op_eq (pv 1) pe_str (nomark _))
      (pss_one (ps_ret (pe_lst (pa_cons (pe_callTy call_str_int (by rfl) mstr boot_str (pa_cons (pe_ix ix_tup (pv 0) pe_int (fun _ _ => rfl)) pa_nil)) pa_nil))))
      pss_nil)
      (pss_cons (ps_if (pt_cmpR op_eq (pv 1) pe_str (nomark _))
      (pss_one (ps_ret (pe_lst (pa_cons (pe_ix ix_tup (pv 0) pe_int (fun _ _ => rfl)) pa_nil))))
      pss_nil)
      (pss_cons (ps_if (pt_cmpR op_eq (pv 1) pe_str (nomark _))
      (pss_one (ps_ret (pe_lst (pa_cons (pe_ix ix_tup (pv 0) pe_int (fun _ _ => rfl)) (pa_cons pe_str (pa_cons (pe_ix ix_tup (pv 0) pe_int (fun _ _ => rfl)) (pa_cons pe_str (pa_cons (pe_ix ix_tup (pv 0) pe_int (fun _ _ => rfl)) pa_nil))))))))
      pss_nil)
      (pss_cons (ps_if (pt_cmpR op_in_seq (pv 1) (pe_glob (v := .ref aO) rfl mO rfl) (by rfl))
      (pss_one (ps_ret (pe_lst (pa_cons pe_str (pa_cons (pe_ix ix_tup (pv 0) pe_int (fun _ _ => rfl)) (pa_cons (pe_joined (.cons pe_str (.cons (pe_fmt (pv 1)) (.cons pe_str .nil)))) (pa_cons (pe_ix ix_tup (pv 0) pe_int (fun _ _ => rfl)) (pa_cons pe_str pa_nil))))))))
      pss_nil)
      (pss_cons (ps_if (pt_cmpR op_in_seq (pv 1) (pe_glob (v := .ref aG) rfl mG rfl) (by rfl))
      (pss_one (ps_ret (pe_lst (pa_cons (pv 1) (pa_cons pe_str (pa_star (pe_call Gl hr (by rfl) gl Kl bl .nil pass0 (pa_cons (pe_lst (pa_cons (pe_ix ix_tup (pv 0) pe_int (fun _ _ => rfl)) (pa_star (pe_slice L2.sl_tup (pv 0) (po_some pe_int) po_none) pa_nil))) pa_nil)) (pa_cons pe_str pa_nil)))))))
      pss_nil)
      (pss_one (ps_ret (pe_lst (pa_cons (pv 1) (pa_cons pe_str (pa_star (pe_call Gt hr (by rfl) gl Kl bl .nil pass0 (pa_cons (pe_slice L2.sl_tup (pv 0) (po_some pe_int) po_none) pa_nil)) (pa_cons pe_str pa_nil)))))))))))))), ?_⟩
  -- the end: one list of these
  have fin : ∀ (H' : Hp) (L : Addr) (us : List V) (ps : List PyData), Same H H' → H' L = none → DdAll K F0 H' us ps → PcL ps l → mss ps < ms d → Q (.ref L) (upd H' L (.lst us)) := fun H' L us ps s' n' hd' hp hm => by
    have sL := same_upd (o := .lst us) n'
    exact q _ L us ps (s'.trans sL) (s'.free n') upd_same (hd'.keep (KeepO.of sL)) hp hm
  have s0 : Same H H := fun _ _ e => e
  have b1 : 1 ≤ sizeLine := small_le (by decide)
  have b5 : 5 ≤ sizeLine := small_le (by decide)
  have tst : ∀ {w x : Str} {A B : Prop}, w ≠ x → B → (if decide (V.str w = V.str x) = true then A else B) := fun hne hB => by
    rw [decide_eq_false (fun e => hne (by injection e))]
    exact iteF hB
  have tyes : ∀ {w : Str} {A B : Prop}, A → (if decide (V.str w = V.str w) = true then A else B) := fun hA => by
    rw [decide_eq_true rfl]
    exact iteT hA
  cases ht with
  | int n i h1 h2 =>
    obtain ⟨a, xs, rfl, hS, hA⟩ := K7.Dd.tup_inv hd
    rcases hA with _ | ⟨g1, hA⟩; cases g1; rcases hA with _ | ⟨g2, hA⟩; cases g2; cases hA
    refine ⟨.ref a, rfl, a, _, 0, .str "int", rfl, rfl, hS, at0, .str "int", rfl, rfl, _, rfl, tst (by decide) ⟨.str "int", rfl, rfl, _, rfl, tyes ⟨.ref a, rfl, a, _, 1, .int i, rfl, rfl, hS, atI_nat (j := 1) rfl, i, rfl, ?_, b1, fun L nL => ?_⟩⟩⟩
    · by_cases e0 : i.natAbs = 0
      · rw [e0]; decide
      · exact (Nat.log2_lt e0).mpr (Nat.lt_of_le_of_lt (show i.natAbs ≤ 10 ^ 18 by omega) (Nat.lt_of_lt_of_le (show 10 ^ 18 < 2 ^ 60 by decide) (Nat.pow_le_pow_right (by decide) (by decide))))
    · rw [show PySem.Str.ofString (toString i) = S (num i) from str_num i]
      exact fin H L _ [.str (S (num i))] s0 nL (.cons (.str _) .nil) (PcL.one (.str (S (num i)))) (by rw [mss_one]; show 1 < 8 * sz _; rw [sz]; omega)
  | key n =>
    obtain ⟨a, xs, rfl, hS, hA⟩ := K7.Dd.tup_inv hd
    rcases hA with _ | ⟨g1, hA⟩; cases g1; cases hA
    refine ⟨.ref a, rfl, a, _, 0, .str "key", rfl, rfl, hS, at0, .str "key", rfl, rfl, _, rfl, tyes ⟨b1, fun L nL => ?_⟩⟩
    exact fin H L _ [.str "key"] s0 nL (.cons (.str _) .nil) (PcL.one (.str "key")) (by rw [mss_one]; show 1 < 8 * sz _; rw [sz]; omega)
  | var n z hz =>
    obtain ⟨a, xs, rfl, hS, hA⟩ := K7.Dd.tup_inv hd
    rcases hA with _ | ⟨g1, hA⟩; cases g1; rcases hA with _ | ⟨g2, hA⟩; cases g2; cases hA
    refine ⟨.ref a, rfl, a, _, 0, .str "var", rfl, rfl, hS, at0, .str "var", rfl, rfl, _, rfl, tst (by decide) ⟨.str "var", rfl, rfl, _, rfl, tst (by decide) ⟨.str "var", rfl, rfl, _, rfl, tyes ⟨.ref a, rfl, a, _, 1, .str z, rfl, rfl, hS, atI_nat (j := 1) rfl, b1, fun L nL => ?_⟩⟩⟩⟩
    exact fin H L _ [.str z] s0 nL (.cons (.str _) .nil) (PcL.one (.str z)) (by rw [mss_one]; show 1 < 8 * sz _; rw [sz]; omega)
  | cell n t c x l1 h1 h2 hx =>
    obtain ⟨a, xs, rfl, hS, hA⟩ := K7.Dd.tup_inv hd
    rcases hA with _ | ⟨g1, hA⟩; cases g1; rcases hA with _ | ⟨g2, hA⟩; cases g2; rcases hA with _ | ⟨g3, hA⟩; rcases hA with _ | ⟨g4, hA⟩; cases g4; cases hA
    rename_i ux
    refine ⟨.ref a, rfl, a, _, 0, .str "cell", rfl, rfl, hS, at0, .str "cell", rfl, rfl, _, rfl, tst (by decide) ⟨.str "cell", rfl, rfl, _, rfl, tst (by decide) ⟨.str "cell", rfl, rfl, _, rfl, tst (by decide) ⟨.str "cell", rfl, rfl, _, rfl, tyes ⟨.ref a, rfl, a, _, 1, .str t, rfl, rfl, hS, atI_nat (j := 1) rfl, .ref a, rfl, a, _, 2, ux, rfl, rfl, hS, atI_nat (j := 2) rfl, .ref a, rfl, a, _, 3, .str c, rfl, rfl, hS, atI_nat (j := 3) rfl, b5, fun L nL => ?_⟩⟩⟩⟩⟩
    refine fin H L _ [.str t, .str "[", x, .str "].", .str c] s0 nL (.cons (.str _) (.cons (.str _) (.cons g3 (.cons (.str _) (.cons (.str _) .nil))))) ?_ ?_
    · exact .cons (.str t) (.cons (.str "[") (.cons (.ex n x l1 hx) (.cons (.str "].") (PcL.one (.str c)))))
    · have := (ms_le x).2
      rw [mss_cons, mss_cons, mss_cons, mss_cons, mss_one]
      show 1 + (1 + (ms x + (1 + 1))) < 8 * sz _
      rw [sz, szs, szs, szs, szs, szs]
      omega
  | op n o x y l1 l2 ho hx hy =>
    obtain ⟨a, xs, rfl, hS, hA⟩ := K7.Dd.tup_inv hd
    rcases hA with _ | ⟨g1, hA⟩; cases g1; rcases hA with _ | ⟨g2, hA⟩; rcases hA with _ | ⟨g3, hA⟩; cases hA
    rename_i ux uy
    have hno : o ≠ "key" ∧ o ≠ "int" ∧ o ≠ "var" ∧ o ≠ "cell" ∧ o.length ≤ 1 ∧ (Str.empty ++ " " ++ o).length ≤ sizeLine ∧ (Str.empty ++ " " ++ o ++ " ").length ≤ sizeLine ∧ wd (Str.empty ++ " " ++ o ++ " ") = 32 :: (wd o ++ [32]) := by
      simp only [ops5, List.mem_cons, List.not_mem_nil, or_false] at ho
      rcases ho with rfl | rfl | rfl | rfl | rfl <;> exact ⟨by decide, by decide, by decide, by decide, by decide, small_le (by decide), small_le (by decide), by decide⟩
    refine ⟨.ref a, rfl, a, _, 0, .str o, rfl, rfl, hS, at0, .str o, rfl, rfl, _, rfl, tst hno.1 ⟨.str o, rfl, rfl, _, rfl, tst hno.2.1 ⟨.str o, rfl, rfl, _, rfl, tst hno.2.2.1 ⟨.str o, rfl, rfl, _, rfl, tst hno.2.2.2.1 ⟨.str o, rfl, aO, ops5.map V.str, rfl, .inr (TO H), rfl, flat_strsW _, _, rfl, ?_⟩⟩⟩⟩⟩
    show if inV (.str o) (ops5.map V.str) = true then _ else _
    rw [in_strs, decide_eq_true ho]
    refine iteT ⟨.ref a, rfl, a, _, 1, ux, rfl, rfl, hS, atI_nat (j := 1) rfl, ⟨" ", rfl, b1, .str o, rfl, .inl ⟨o, rfl, Nat.le_trans hno.2.2.2.2.1 b1, o, rfl, hno.2.2.2.2.2.1, " ", rfl, hno.2.2.2.2.2.2.1, ?_⟩⟩⟩
    refine ⟨.ref a, rfl, a, _, 2, uy, rfl, rfl, hS, atI_nat (j := 2) rfl, b5, fun L nL => ?_⟩
    refine fin H L _ [.str "(", x, .str (Str.empty ++ " " ++ o ++ " "), y, .str ")"] s0 nL (.cons (.str _) (.cons g2 (.cons (.str _) (.cons g3 (.cons (.str _) .nil))))) ?_ ?_
    · have e : (40 :: (l1 ++ (32 :: (wd o ++ (32 :: (l2 ++ [41])))))) = wd "(" ++ (l1 ++ (wd (Str.empty ++ " " ++ o ++ " ") ++ (l2 ++ wd ")"))) := by
        rw [hno.2.2.2.2.2.2.2, show wd "(" = [40] by decide, show wd ")" = [41] by decide]
        simp only [List.append_assoc, List.cons_append, List.nil_append]
      rw [e]
      exact .cons (.str "(") (.cons (.ex n x l1 hx) (.cons (.str _) (.cons (.ex n y l2 hy) (PcL.one (.str ")")))))
    · have := (ms_le x).2
      have := (ms_le y).2
      rw [mss_cons, mss_cons, mss_cons, mss_cons, mss_one]
      show 1 + (ms x + (1 + (ms y + 1))) < 8 * sz _
      rw [sz, szs, szs, szs, szs]
      omega
  | call n o ys ls ho hl hys =>
    obtain ⟨a, xs, rfl, hS, hA⟩ := K7.Dd.tup_inv hd
    rcases hA with _ | ⟨g1, hA⟩; cases g1
    have hno : o ≠ "key" ∧ o ≠ "int" ∧ o ≠ "var" ∧ o ≠ "cell" ∧ o ∉ ops5 ∧ o ∉ aggW ∧ 1 ≤ ys.length ∧ ys.length ≤ 3 := by
      simp only [callk, List.mem_cons, List.not_mem_nil, or_false, Prod.mk.injEq] at ho
      rcases ho with ⟨rfl, e⟩ | ⟨rfl, e⟩ <;> exact ⟨by decide, by decide, by decide, by decide, by decide, by decide, by omega, by omega⟩
    obtain ⟨n1, n2, n3, n4, n5, n6, n7, n8⟩ := hno
    rcases hA with _ | ⟨g2, hA⟩
    · exact absurd n7 (by decide)
    rename_i u us y ys'
    obtain ⟨l1, ls', rfl⟩ : ∃ l1 ls', ls = l1 :: ls' := by
      cases ls with
      | nil => cases hl
      | cons l1 ls' => exact ⟨l1, ls', rfl⟩
    have hu := hA.len
    have nn : ys'.length ≤ 2 := by rw [List.length_cons] at n8; omega
    refine ⟨.ref a, rfl, a, _, 0, .str o, rfl, rfl, hS, at0, .str o, rfl, rfl, _, rfl, tst n1 ⟨.str o, rfl, rfl, _, rfl, tst n2 ⟨.str o, rfl, rfl, _, rfl, tst n3 ⟨.str o, rfl, rfl, _, rfl, tst n4 ⟨.str o, rfl, aO, ops5.map V.str, rfl, .inr (TO H), rfl, flat_strsW _, _, rfl, ?_⟩⟩⟩⟩⟩
    show if inV (.str o) (ops5.map V.str) = true then _ else _
    rw [in_strs, decide_eq_false n5]
    refine iteF ⟨.str o, rfl, aG, aggW.map V.str, rfl, .inr (TG H), rfl, flat_strsW _, _, rfl, ?_⟩
    show if inV (.str o) (aggW.map V.str) = true then _ else _
    rw [in_strs, decide_eq_false n6]
    refine iteF ⟨.str o, rfl, ⟨.ref a, rfl, 1, rfl, a, _, rfl, hS, no_1, fun c nc => ?_⟩⟩
    rw [cut_1]
    have s1 := same_upd (o := .tup (u :: us)) nc
    refine ⟨c, u, us, rfl, .inl (.inl upd_same), by omega, fun H2 L2 s2 n2 h2 => ⟨L2, _, rfl, .inr (.inl (.inl h2)), ?_, fun L nL => ?_⟩⟩
    · exact Nat.le_trans (show (V.str o :: V.str "(" :: (wcV u us ++ [V.str ")"])).length ≤ 10 by rw [List.length_cons, List.length_cons, List.length_append, wc_len, List.length_singleton]; omega) (small_le (by decide))
    have s12 := s1.trans s2
    refine fin H2 L _ (.str o :: .str "(" :: (wcD y ys' ++ [.str ")"])) s12 nL ?_ ?_ ?_
    · have kk : KeepO F0 H H2 := KeepO.of s12
      exact .cons (.str _) (.cons (.str _) (DdAll.app (.cons (g2.keep kk) (wc_dd (g2.keep kk) (hA.keep kk))) (.cons (.str _) .nil)))
    · have pp : PcL (wcD y ys') (commas (l1 :: ls')) := wc_pc (.ex n y l1 (hys (y, l1) (by rw [List.zip_cons_cons]; exact List.mem_cons_self))) (by simpa using hl.symm) fun p hp => .ex n _ _ (hys p (by rw [List.zip_cons_cons]; exact List.mem_cons_of_mem _ hp))
      have := PcL.cons (.str o) (PcL.cons (.str "(") (pp.app (PcL.one (.str ")"))))
      rwa [show wd "(" = [40] by decide, show wd ")" = [41] by decide] at this
    · have := (ms_le y).2
      have := mss_le ys'
      rw [mss_cons, mss_cons, mss_app, wc_mss, mss_one]
      show 1 + (1 + (ms y + mss ys' + ys'.length + 1)) < 8 * sz _
      rw [sz, szs, szs, sz]
      · omega
      · exact fun _ e => nomatch e
  | agg n o t ys ls h0 ho ht' hl hys =>
    obtain ⟨a, xs, rfl, hS, hA⟩ := K7.Dd.tup_inv hd
    rcases hA with _ | ⟨g1, hA⟩; cases g1; rcases hA with _ | ⟨g2, hA⟩; cases g2; rcases hA with _ | ⟨g3, hA⟩; rcases hA with _ | ⟨g4, hA⟩
    rename_i v3 v4 us
    have hno : o ≠ "key" ∧ o ≠ "int" ∧ o ≠ "var" ∧ o ≠ "cell" ∧ o ∉ ops5 ∧ o ∈ aggW ∧ 1 ≤ ys.length ∧ ys.length ≤ 3 := by
      simp only [aggn, List.mem_cons, List.not_mem_nil, or_false, Prod.mk.injEq] at ho
      rcases ho with ⟨rfl, e⟩ | ⟨rfl, e⟩ | ⟨rfl, e⟩ | ⟨rfl, e⟩ <;> exact ⟨by decide, by decide, by decide, by decide, by decide, by decide, by omega, by omega⟩
    obtain ⟨n1, n2, n3, n4, n5, n6, n7, n8⟩ := hno
    have hu := hA.len
    refine ⟨.ref a, rfl, a, _, 0, .str o, rfl, rfl, hS, at0, .str o, rfl, rfl, _, rfl, tst n1 ⟨.str o, rfl, rfl, _, rfl, tst n2 ⟨.str o, rfl, rfl, _, rfl, tst n3 ⟨.str o, rfl, rfl, _, rfl, tst n4 ⟨.str o, rfl, aO, ops5.map V.str, rfl, .inr (TO H), rfl, flat_strsW _, _, rfl, ?_⟩⟩⟩⟩⟩
    show if inV (.str o) (ops5.map V.str) = true then _ else _
    rw [in_strs, decide_eq_false n5]
    refine iteF ⟨.str o, rfl, aG, aggW.map V.str, rfl, .inr (TG H), rfl, flat_strsW _, _, rfl, ?_⟩
    show if inV (.str o) (aggW.map V.str) = true then _ else _
    rw [in_strs, decide_eq_true n6]
    refine iteT ⟨.str o, rfl, ⟨.ref a, rfl, a, _, 1, .str t, rfl, rfl, hS, atI_nat (j := 1) rfl, ⟨.ref a, rfl, 4, rfl, a, _, rfl, hS, no_4, fun c nc => ⟨c, _, rfl, .inl (.inl (.inl upd_same)), ?_⟩⟩⟩⟩
    rw [cut_4]
    have s1 := same_upd (o := .tup us) nc
    refine ⟨?_, fun L1 nL1 => ?_⟩
    · exact Nat.le_trans (show (V.str t :: (us ++ [])).length ≤ 10 by rw [List.length_cons, List.length_append, List.length_nil]; omega) (small_le (by decide))
    have s2 := same_upd (o := .lst (V.str t :: (us ++ []))) nL1
    refine ⟨L1, .str t, us ++ [], rfl, .inl (.inl upd_same), by rw [List.length_append, List.length_nil]; omega, fun H2 L2 s3 n2 h2 => ⟨L2, _, rfl, .inr (.inl (.inl h2)), ?_, fun L nL => ?_⟩⟩
    · exact Nat.le_trans (show (V.str o :: V.str "(" :: (wcV (V.str t) (us ++ []) ++ [V.str ")"])).length ≤ 12 by rw [List.length_cons, List.length_cons, List.length_append, wc_len, List.length_singleton, List.length_append, List.length_nil]; omega) (small_le (by decide))
    have s12 := (s1.trans s2).trans s3
    refine fin H2 L _ (.str o :: .str "(" :: (wcD (.str t) ys ++ [.str ")"])) s12 nL ?_ ?_ ?_
    · have kk : KeepO F0 H H2 := KeepO.of s12
      have d0 : DdAll K F0 H2 (wcV (V.str t) (us ++ [])) (wcD (.str t) ys) := by
        rw [List.append_nil]
        exact .cons (.str _) (wc_dd (.str t) (hA.keep kk))
      exact .cons (.str _) (.cons (.str _) (DdAll.app d0 (.cons (.str _) .nil)))
    · have pp : PcL (wcD (.str t) ys) (commas (wd t :: ls)) := wc_pc (.str t) hl.symm fun p hp => .ex n _ _ (hys p hp)
      have := PcL.cons (.str o) (PcL.cons (.str "(") (pp.app (PcL.one (.str ")"))))
      have e : commas (wd t :: ls) = wd t ++ (44 :: 32 :: commas ls) := by
        cases ls with
        | nil => rw [List.length_nil] at hl; omega
        | cons m ms' => rfl
      rw [e, show wd "(" = [40] by decide, show wd ")" = [41] by decide] at this
      simpa only [List.append_assoc, List.cons_append, List.nil_append] using this
    · have := mss_le ys
      rw [mss_cons, mss_cons, mss_app, wc_mss, mss_one]
      show 1 + (1 + (1 + mss ys + ys.length + 1)) < 8 * sz _
      rw [sz, szs, szs, szs, szs]
      omega
end
end K7

/-! an expression is shown -/
namespace K7
open PySem PySem.Spec PyProof.Rows L2 GR AD RZ WX ZE TX RVT
open SX (S S_cat S_len S_inj)
/-! how long a text is -/
theorem commas_len : ∀ ls : List (List Nat), (commas ls).length ≤ (ls.map List.length).sum + 2 * ls.length
  | [] => Nat.zero_le _
  | [l] => by
    show l.length ≤ _
    rw [List.map_cons, List.map_nil, List.sum_cons, List.sum_nil]
    omega
  | l :: m :: r => by
    have := commas_len (m :: r)
    show (l ++ ([44, 32] ++ commas (m :: r))).length ≤ _
    rw [List.length_append, List.length_append, List.map_cons, List.sum_cons, List.length_cons (a := l)]
    show l.length + (2 + _) ≤ _
    omega
theorem zip_len : ∀ {xs : List PyData} {ls : List (List Nat)}, ls.length = xs.length → (∀ p, p ∈ xs.zip ls → p.2.length ≤ 30 * sz p.1) → (ls.map List.length).sum ≤ 30 * szs xs
  | [], [], _, _ => Nat.zero_le _
  | [], _ :: _, h, _ => by cases h
  | _ :: _, [], h, _ => by cases h
  | x :: xs, l :: ls, h, ha => by
    have ih := zip_len (xs := xs) (ls := ls) (by simpa using h) fun p hp => ha p (by rw [List.zip_cons_cons]; exact List.mem_cons_of_mem _ hp)
    have := ha (x, l) (by rw [List.zip_cons_cons]; exact List.mem_cons_self)
    have this : l.length ≤ 30 * sz x := this
    rw [List.map_cons, List.sum_cons, szs]
    omega
theorem nm_len {z : Str} (h : Nm z) : (wd z).length ≤ 8 := h.2.1
theorem Tx.len {n : Nat} {d : PyData} {l : List Nat} (h : Tx n d l) : l.length ≤ 30 * sz d := by
  have s1 : ∀ z : Str, sz (.str z) = 1 := fun _ => rfl
  have si : ∀ i : Int, sz (.int i) = 1 := fun _ => rfl
  induction h with
  | int n i h1 h2 =>
    have := num_len h1 h2
    rw [sz, szs, szs, szs, s1, si]
    omega
  | key n =>
    rw [sz, szs, szs, s1]
    decide
  | var n z hz =>
    have := nm_len hz
    rw [sz, szs, szs, szs, s1, s1]
    omega
  | cell n t v x l h1 h2 _ ih =>
    have := nm_len h1
    have := nm_len h2
    rw [sz, szs, szs, szs, szs, szs, s1, s1, s1, List.length_append, List.length_cons, List.length_append, List.length_cons, List.length_cons]
    omega
  | op n o x y l m ho _ _ ih1 ih2 =>
    have ho : (wd o).length ≤ 1 := by
      simp only [ops5, List.mem_cons, List.not_mem_nil, or_false] at ho
      rcases ho with rfl | rfl | rfl | rfl | rfl <;> decide
    rw [sz, szs, szs, szs, szs, s1, List.length_cons, List.length_append, List.length_cons, List.length_append, List.length_cons, List.length_append, List.length_singleton]
    omega
  | call n o xs ls ho hl _ ih =>
    have hw : (wd o).length ≤ 2 ∧ xs.length ≤ 3 := by
      simp only [callk, List.mem_cons, List.not_mem_nil, or_false, Prod.mk.injEq] at ho
      rcases ho with ⟨rfl, e⟩ | ⟨rfl, e⟩ <;> exact ⟨by decide, by omega⟩
    have h1 := commas_len ls
    have h2 := zip_len hl ih
    rw [sz, szs, s1, List.length_append, List.length_cons, List.length_append, List.length_singleton]
    omega
  | agg n o t xs ls h0 ho ht hl _ ih =>
    have hw : (wd o).length ≤ 5 ∧ xs.length ≤ 3 := by
      simp only [aggn, List.mem_cons, List.not_mem_nil, or_false, Prod.mk.injEq] at ho
      rcases ho with ⟨rfl, e⟩ | ⟨rfl, e⟩ | ⟨rfl, e⟩ | ⟨rfl, e⟩ <;> exact ⟨by decide, by omega⟩
    have h1 := commas_len ls
    have h2 := zip_len hl ih
    have := nm_len ht
    rw [sz, szs, szs, szs, szs, s1, s1, List.length_append, List.length_cons, List.length_append, List.length_cons, List.length_cons, List.length_append, List.length_singleton]
    have := sz_pos (.tuple [])
    have := sz_pos (rowX t)
    omega
theorem join0 : ∀ ls : List (List Nat), TL.joinL [] ls = ls.flatten
  | [] => rfl
  | [l] => by rw [List.flatten_cons, List.flatten_nil, List.append_nil]; rfl
  | l :: m :: r => by
    show l ++ ([] ++ TL.joinL [] (m :: r)) = _
    rw [join0 (m :: r), List.nil_append, ← List.flatten_cons]
theorem map_S_wd (ys : List Str) : (ys.map wd).map S = ys := by
  rw [List.map_map]
  calc _ = ys.map id := List.map_congr_left fun z _ => S_wd z
    _ = ys := List.map_id _
theorem join_wd (ys : List Str) : Txt.join (S []) ys = S ((ys.map wd).flatten) := by
  have := SX.join_S [] (ys.map wd)
  rwa [map_S_wd, join0] at this
theorem sum_wd (ys : List Str) : (ys.map (·.length)).sum = ((ys.map wd).flatten).length := by
  induction ys with
  | nil => rfl
  | cons y ys ih =>
    rw [List.map_cons, List.map_cons, List.sum_cons, List.flatten_cons, List.length_append, ih]
    congr 1
theorem dd_rev {K : PySem.W.Frag} {ok : Addr → Prop} {H : Hp} : ∀ {us : List V} {ds : List PyData}, DdAll K ok H us ds → DdAll K ok H us.reverse ds.reverse
  | _, _, .nil => .nil
  | _, _, .cons a t => by
    rw [List.reverse_cons, List.reverse_cons]
    exact DdAll.app (dd_rev t) (.cons a .nil)
theorem tx_tup {n : Nat} {d : PyData} {l : List Nat} (h : Tx n d l) : ∃ ds, d = .tuple ds := by
  cases h <;> exact ⟨_, rfl⟩
section
variable {P : Program} {w : World} {K : PySem.W.Frag} {mg : Str → Option Value} {base : Heap}
abbrev s_show_expression : Stmt := topS 23
theorem sc_show_expression : FnScope ["expression", "shown", "todo", "piece"] ["expression"] (defScope s_show_expression) := ⟨rfl, rfl, rfl, by decide +kernel, rfl, by decide +kernel, by decide +kernel⟩
def sp_show (K : PySem.W.Frag) : Sp := fun vs H Q _ => ∃ (v : V) (n : Nat) (d : PyData) (l : List Nat), vs = [v] ∧ Dd K F0 H v d ∧ Tx n d l ∧ sz d ≤ 100000 ∧ ∀ H', Same H H' → Q (.str (S l)) H'
/-- what was shown, and what is still to do -/
def EInv (K : PySem.W.Frag) (v : V) (d0 : PyData) (l : List Nat) (sh td : Addr) (H0 : Hp) (m : Nat) (σ : L2.St) (H : Hp) : Prop :=
  ∃ (z : Option V) (us : List V) (xs : List PyData) (ys : List Str) (l2 : List Nat), σ = [some v, some (.ref sh), some (.ref td), z] ∧ H sh = some (.lst (ys.map V.str)) ∧ H td = some (.lst us) ∧ DdAll K F0 H us xs ∧ PcL xs.reverse l2 ∧ l = (ys.map wd).flatten ++ l2 ∧
    m = mss xs ∧ ys.length + m ≤ ms d0 ∧ (∀ b o, b ≠ td → b ≠ sh → H0 b = some o → H b = some o)
theorem ok_show_expression {f fc : Addr} {fd fdc : FuncData} {k : Nat} (F : Fun K "show_expression" "show_expression" s_show_expression f fd) (G : FnOk P w K mg base CX0 k fc fdc ["expression"] (sp_pieces K)) (gc : mg "pieces_of" = some (.ref fc)) (Kc : PySem.W.keepIn K (.ref fc) = true) (bc : Binds K fdc ["expression"] [])
    (misi : mg "isinstance" = none) (mstr : mg "str" = none) : FnOk P w K mg base CX0 (k + 1) f fd ["expression"] (sp_show K) := by
  have nd := sc_show_expression.nd
  refine F.ok sc_show_expression (fun vs H Q E h => ?_) (fun cdv A outer s H vs Q E hr h => ?_)
  · obtain ⟨v, n, d, l, rfl, _⟩ := h
    rfl
  obtain ⟨v, n, d, l, rfl, hd, ht, hsz, q⟩ := h
  refine ⟨_, (pss_cons (ps_set (i := 1) nd rfl (.inl rfl) (pe_lst pa_nil))
      (pss_cons (ps_set (i := 2) nd rfl (.inl rfl) (pe_lst (pa_cons (pv 0) pa_nil)))
      (pss_cons (ps_while PassesOwn.never (pt_truth (pv 2) (fun _ => rfl))
      (pss_cons (ps_set (i := 3) nd rfl (.inl rfl) (pe_bm0 PySem.F.plainAttrs_list PySem.F.slot_list_pop PySem.F.type_list_pop mt_pop (pv 2)))
        (pss_one (ps_if (pt_val (pe_callB call_isi (by rfl) misi boot_isinstance (pa_cons (pv 3) (pa_cons (pe_bltn (v := .ty "str") (by rfl) mstr boot_str rfl) pa_nil))))
        (pss_one (ps_expr (pe_bm PySem.F.plainAttrs_list PySem.F.slot_list_append PySem.F.type_list_append mt_append (pv 1) (pa_cons (pv 3) pa_nil))))
        (pss_one (ps_expr (pe_bm PySem.F.plainAttrs_list PySem.F.slot_list_extend PySem.F.type_list_extend mt_extend (pv 2) (pa_cons (pe_revL (pe_call G hr (by rfl) gc Kc bc .nil pass0 (pa_cons (pv 3) pa_nil))) pa_nil))))))))
      (pss_one (ps_ret (pe_join pe_str (pv 1))))))), ?_⟩
  have hml := (ms_le d).2
  have htl := ht.len
  refine ⟨small_le (show 0 ≤ 1000 by decide), fun sh nsh => ?_⟩
  have s0 := same_upd (o := .lst []) nsh
  refine ⟨v, rfl, small_le (show 1 ≤ 1000 by decide), fun td ntd => ?_⟩
  have s1 := same_upd (o := .lst [v]) ntd
  have hts : sh ≠ td := ne_of_none (show upd H sh (.lst []) sh = some (.lst []) from upd_same) ntd
  have ntd0 : H td = none := s0.free ntd
  refine ⟨EInv K v d l sh td H, ⟨mss [d], none, [v], [d], [], l, rfl, ?_, upd_same, .cons (hd.keep (KeepO.of (s0.trans s1))) .nil, PcL.one (.ex n d l ht), rfl, rfl, ?_, fun b o _ _ e => s1 _ _ (s0 _ _ e)⟩, ?_⟩
  · exact s1 _ _ upd_same
  · rw [mss_one]
    exact Nat.le_of_eq (Nat.zero_add _)
  rintro m σ H' ⟨z, us, xs, ys, l2, rfl, hsh, hu, hA, hP, hl, rfl, hm, kk⟩
  have lu := hA.len
  have lm := mss_len xs
  have fin : ∀ H2, (∀ b o, b ≠ td → b ≠ sh → H' b = some o → H2 b = some o) → Same H H2 := fun H2 s2 b o e => s2 _ _ (ne_of_none e ntd0) (ne_of_none e nsh) (kk _ _ (ne_of_none e ntd0) (ne_of_none e nsh) e)
  refine ⟨.ref td, rfl, !us.isEmpty, .inl ⟨us, .inl (.inl hu), rfl⟩, ?_⟩
  cases hus : us with
  | nil =>
    subst hus
    cases hA
    cases hP
    rw [List.append_nil] at hl
    refine iteF ⟨⟨_, rfl⟩, .ref sh, rfl, Str.ofString "", sh, ys, rfl, rfl, .inl (.inl (.inl hsh)), ?_, ?_⟩
    · rw [sum_wd, ← hl]
      show l.length + ys.length * 0 ≤ _
      omega
    · rw [show PySem.Str.ofString "" = S [] by decide +kernel, join_wd, ← hl]
      exact q H' (fin H' fun b o _ _ e => e)
  | cons u0 ur =>
    have hne : us ≠ [] := by
      rw [hus]
      exact List.cons_ne_nil _ _
    rw [← hus]
    have full : (!us.isEmpty) = true := by
      rw [hus]
      rfl
    rw [full]
    obtain ⟨y, e, xs', rfl, hy, hA', hye⟩ := dd_last hA hne
    rw [List.reverse_append, List.reverse_singleton, List.singleton_append] at hP
    rw [mss_app, mss_one] at hm
    refine iteT ⟨fun σ' H'' => ∃ m', m' < mss (xs' ++ [e]) ∧ EInv K v d l sh td H m' σ' H'', fun σ' H'' h => h, ?_⟩
    refine ⟨.ref td, rfl, .inl ⟨rfl, _, .inl (.inl hu)⟩, td, us, y, rfl, rfl, hu, hy, ?_⟩
    have k1 : KeepT H' (upd H' td (.lst us.dropLast)) := KeepT.lst hu
    have hu1 : upd H' td (.lst us.dropLast) td = some (.lst us.dropLast) := upd_same
    have keep1 : ∀ b o, b ≠ td → H' b = some o → upd H' td (.lst us.dropLast) b = some o := fun b o hb e => by
      rw [upd_ne hb]
      exact e
    have hA1 := hA'.keep (kf0 k1)
    have hye1 := hye.keep (kf0 k1)
    have hsh1 := keep1 _ _ hts hsh
    revert k1 hu1 keep1 hA1 hye1 hsh1
    generalize upd H' td (.lst us.dropLast) = H1
    intro k1 hu1 keep1 hA1 hye1 hsh1
    refine ⟨y, rfl, y, .ty "str", _, _, _, rfl, .ty "str", hye1.ty, kit_s K e, _, rfl, ?_⟩
    cases hP with
    | cons hp hP' =>
    rename_i lx lr
    cases hp with
    | str z =>
      cases hye1
      refine iteT ⟨.ref sh, rfl, .inl ⟨rfl, _, .inl (.inl hsh1)⟩, .str z, rfl, sh, _, .str z, rfl, rfl, hsh1, ?_, ?_⟩
      · rw [List.length_map, sizeLine_eq]
        rw [show ms (.str z) = 1 from rfl] at hm
        omega
      have k2 : KeepT H1 (upd H1 sh (.lst (ys.map V.str ++ [.str z]))) := KeepT.lst hsh1
      refine ⟨mss xs', ?_, _, us.dropLast, xs', ys ++ [z], lr, rfl, ?_, ?_, hA1.keep (kf0 k2), hP', ?_, rfl, ?_, fun b o h1 h2 e => ?_⟩
      · rw [mss_app, mss_one]
        exact Nat.lt_add_of_pos_right (ms_le _).1
      · rw [List.map_append]
        exact upd_same
      · rw [upd_ne hts.symm]
        exact hu1
      · rw [hl, List.map_append, List.flatten_append, List.map_singleton, List.flatten_singleton, List.append_assoc]
      · rw [show ms (.str z) = 1 from rfl] at hm
        rw [List.length_append, List.length_singleton]
        omega
      · rw [upd_ne h2]
        exact keep1 _ _ h1 (kk _ _ h1 h2 e)
    | ex n2 _ _ htx =>
      obtain ⟨es, rfl⟩ := tx_tup htx
      refine iteF ⟨.ref td, rfl, .inl ⟨rfl, _, .inl (.inl hu1)⟩, y, rfl, y, n2, _, lx, rfl, hye1, htx, fun H2 L us2 ps s2 nL hL hds hps hms => ⟨L, us2, rfl, .inl (.inl hL), fun p np => ?_⟩⟩
      have s3 := same_upd (o := .lst us2.reverse) np
      have htd3 : upd H2 p (.lst us2.reverse) td = some (.lst us.dropLast) := s3 _ _ (s2 _ _ hu1)
      have hp3 : upd H2 p (.lst us2.reverse) p = some (.lst us2.reverse) := upd_same
      have hds3 := dd_rev (hds.keep (KeepO.of s3))
      have hA3 := hA1.keep (KeepO.of (s2.trans s3))
      have hsh3 := s3 _ _ (s2 _ _ hsh1)
      have keep3 : ∀ b o, b ≠ td → H' b = some o → upd H2 p (.lst us2.reverse) b = some o := fun b o hb e => s3 _ _ (s2 _ _ (keep1 _ _ hb e))
      revert htd3 hp3 hds3 hA3 hsh3 keep3
      generalize upd H2 p (.lst us2.reverse) = H3
      intro htd3 hp3 hds3 hA3 hsh3 keep3
      have l1 := hA1.len
      have l2' := hds.len
      have lps := mss_len ps
      have lxs := mss_len xs'
      have k4 : KeepT H3 (upd H3 td (.lst (us.dropLast ++ us2.reverse))) := KeepT.lst htd3
      refine ⟨td, p, us.dropLast, us2.reverse, rfl, rfl, htd3, hp3, ?_, mss (xs' ++ ps.reverse), ?_, some y, _, xs' ++ ps.reverse, ys, lx ++ lr, rfl, ?_, upd_same, (DdAll.app hA3 hds3).keep (kf0 k4), ?_, hl, rfl, ?_, fun b o h1 h2 e => ?_⟩
      · rw [List.length_reverse, sizeLine_eq]
        omega
      · rw [mss_app, mss_app, mss_rev, mss_one]
        omega
      · rw [upd_ne hts]
        exact hsh3
      · rw [List.reverse_append, List.reverse_reverse]
        exact hps.app hP'
      · rw [mss_app, mss_rev]
        omega
      · rw [upd_ne h1]
        exact keep3 _ _ h1 (kk _ _ h1 h2 e)
end
end K7

/-! expressions are read -/
namespace K7
open PySem PySem.Spec PyProof.Rows L2 GR AD RZ WX ZE TX RVT
open SX (S S_cat S_len S_inj)
open _root_.StX (pa_star)
/-! bundles -/
section
variable (P : Program) (w : World) (K : PySem.W.Frag) (mg : Str → Option Value) (base : Heap)
/-- a method of the reader -/
def ME (C : Addr) (m : Str) (ps : List Str) (sp : Sp) (k : Nat) : Prop := ∃ (f : Addr) (fd : FuncData), FnOk P w K mg base CX0 k f fd ps sp ∧ Meth K C m f ∧ Binds K fd ps []
/-- a def of the module -/
def DF (x : Str) (ps : List Str) (sp : Sp) (k : Nat) : Prop := ∃ (f : Addr) (fd : FuncData), FnOk P w K mg base CX0 k f fd ps sp ∧ mg x = some (.ref f) ∧ PySem.W.keepIn K (.ref f) = true ∧ Binds K fd ps []
structure RdM (C : Addr) (k : Nat) : Prop where
  T : RC K C
  next : ME P w K mg base C "is_next" ["self", "piece"] (sp_next C) k
  anext : ME P w K mg base C "is_any_next" ["self", "signs"] (sp_anext C) k
  take : ME P w K mg base C "take" ["self", "piece"] (sp_take C) k
  tany : ME P w K mg base C "take_any" ["self", "pieces"] (sp_tany K C) k
  tword : ME P w K mg base C "take_word" ["self"] (sp_tword C) k
  tname : ME P w K mg base C "take_name" ["self"] (sp_tname C) k
  tvalue : ME P w K mg base C "take_value" ["self"] (sp_tvalue C) k
  tend : ME P w K mg base C "take_end" ["self"] (sp_tend C) k
end
section
variable {P : Program} {w : World} {K : PySem.W.Frag} {mg : Str → Option Value} {base : Heap}
theorem ME.up {C : Addr} {m : Str} {ps : List Str} {sp : Sp} {j k : Nat} (h : ME P w K mg base C m ps sp j) (e : j ≤ k) : ME P w K mg base C m ps sp k := by
  obtain ⟨f, fd, a, b, c⟩ := h
  exact ⟨f, fd, a.mono e, b, c⟩
theorem DF.up {x : Str} {ps : List Str} {sp : Sp} {j k : Nat} (h : DF P w K mg base x ps sp j) (e : j ≤ k) : DF P w K mg base x ps sp k := by
  obtain ⟨f, fd, a, b, c, d⟩ := h
  exact ⟨f, fd, a.mono e, b, c, d⟩
theorem RdM.up {C : Addr} {j k : Nat} (h : RdM P w K mg base C j) (e : j ≤ k) : RdM P w K mg base C k := ⟨h.T, h.next.up e, h.anext.up e, h.take.up e, h.tany.up e, h.tword.up e, h.tname.up e, h.tvalue.up e, h.tend.up e⟩
/-! what may follow an expression -/
def Fo (r : List Nat) : Prop := r = [] ∨ ∃ c t, r = c :: t ∧ (c = 32 ∨ c = 41 ∨ c = 44 ∨ c = 93)
theorem Fo.c {c : Nat} {t : List Nat} (h : c = 32 ∨ c = 41 ∨ c = 44 ∨ c = 93) : Fo (c :: t) := .inr ⟨c, t, rfl, h⟩
theorem Fo.l26 {r : List Nat} (h : Fo r) : nextIn L26 r = false := by
  rcases h with rfl | ⟨c, t, rfl, rfl | rfl | rfl | rfl⟩
  · rfl
  · exact (by decide +kernel : decide (32 ∈ wd L26) = false)
  · exact (by decide +kernel : decide (41 ∈ wd L26) = false)
  · exact (by decide +kernel : decide (44 ∈ wd L26) = false)
  · exact (by decide +kernel : decide (93 ∈ wd L26) = false)
theorem Fo.dg {r : List Nat} (h : Fo r) : nextIn DG r = false := by
  rcases h with rfl | ⟨c, t, rfl, rfl | rfl | rfl | rfl⟩
  · rfl
  · exact (by decide +kernel : decide (32 ∈ wd DG) = false)
  · exact (by decide +kernel : decide (41 ∈ wd DG) = false)
  · exact (by decide +kernel : decide (44 ∈ wd DG) = false)
  · exact (by decide +kernel : decide (93 ∈ wd DG) = false)
theorem Fo.no {a : Nat} {r : List Nat} (h : Fo r) (e : a = 40 ∨ a = 91) : ([a] : List Nat).isPrefixOf r = false := by
  rcases h with rfl | ⟨c, t, rfl, rfl | rfl | rfl | rfl⟩ <;> rcases e with rfl | rfl <;> rfl
abbrev SG : Str := "-0123456789"
/-- a text that begins with a sign of a word -/
def LowH (u : List Nat) : Prop := ∃ c t, u = c :: t ∧ Low c
theorem LowH.app {u r : List Nat} (h : LowH u) : LowH (u ++ r) := by
  obtain ⟨c, t, rfl, hc⟩ := h
  exact ⟨c, t ++ r, rfl, hc⟩
theorem LowH.no {u : List Nat} (h : LowH u) : ([40] : List Nat).isPrefixOf u = false ∧ nextIn SG u = false := by
  obtain ⟨c, t, rfl, h1, h2⟩ := h
  constructor
  · show ((40 == c) && true) = false
    rw [Bool.and_true, beq_eq_false_iff_ne]
    omega
  · refine decide_eq_false fun hm => ?_
    have : ∀ c, c ∈ wd SG → c < 97 := by decide +kernel
    have := this c hm
    omega
theorem nm_lowH {z : Str} (h : Nm z) : LowH (wd z) := by
  obtain ⟨h1, _, h3, _⟩ := h
  cases e : wd z with
  | nil => rw [show z.cps.toList = wd z from rfl, e] at h1; exact absurd h1 (by decide)
  | cons c t => exact ⟨c, t, rfl, h3 c (by rw [show z.cps.toList = wd z from rfl, e]; exact List.mem_cons_self)⟩
theorem num_first (i : Int) : ∃ c t, num i = c :: t ∧ (c = 45 ∨ isD c = true) := by
  obtain ⟨ng, ds, h, hne, hds⟩ := num_form i
  cases ng with
  | true => exact ⟨45, ds, h, .inl rfl⟩
  | false =>
    cases ds with
    | nil => exact absurd rfl hne
    | cons c ds =>
      rw [List.all_cons, Bool.and_eq_true] at hds
      exact ⟨c, ds, h, .inr hds.1⟩
theorem num_no (i : Int) (r : List Nat) : ([40] : List Nat).isPrefixOf (num i ++ r) = false ∧ nextIn SG (num i ++ r) = true := by
  obtain ⟨c, t, h, hc⟩ := num_first i
  rw [h]
  constructor
  · show ((40 == c) && true) = false
    rw [Bool.and_true, beq_eq_false_iff_ne]
    rcases hc with rfl | hc
    · decide
    · rw [Bool.and_eq_true, decide_eq_true_eq, decide_eq_true_eq] at hc
      omega
  · refine decide_eq_true ?_
    rcases hc with rfl | hc
    · decide +kernel
    · have := dg_mem hc
      have e : wd SG = 45 :: wd DG := by decide +kernel
      rw [e]
      exact List.mem_cons_of_mem _ this
/-! the heap -/
theorem KeepR.o {C p dx : Addr} {H H' : Hp} {fs : List (Str × V)} (h : H p = some (.ins C dx fs)) (k : KeepR p H H') : KeepO F0 H H' := by
  refine ⟨fun b xs e => k b _ (fun eb => ?_) e, fun b u xs e => k b _ (fun eb => ?_) e, fun _ _ h => h.elim⟩
  · subst eb
    rw [h] at e
    cases e
  · subst eb
    rw [h] at e
    cases e
theorem RdAt.same {C p : Addr} {H H' : Hp} {l : List Nat} {i : Nat} (h : RdAt C H p l i) (s : Same H H') : RdAt C H' p l i := by
  obtain ⟨dx, h⟩ := h
  exact ⟨dx, s _ _ h⟩
theorem RdAt.o {C p : Addr} {H H' : Hp} {l : List Nat} {i : Nat} (h : RdAt C H p l i) (k : KeepR p H H') : KeepO F0 H H' := by
  obtain ⟨dx, h⟩ := h
  exact KeepR.o h k
abbrev TupIs (K : PySem.W.Frag) (H : Hp) (v : V) (ds : List PyData) : Prop := Dd K F0 H v (.tuple ds)
/-- the spec of reading an expression -/
def sp_texp (K : PySem.W.Frag) (C : Addr) (n : Nat) : Sp := fun vs H Q _ => ∃ (p : Addr) (l l' r : List Nat) (i : Nat) (d : PyData) (rm : Int), vs = [.ref p, .int rm] ∧ (n : Int) ≤ rm ∧ RdAt C H p l i ∧ i ≤ l.length ∧ l.length ≤ 8000000 ∧ Tx n d l' ∧ l.drop i = l' ++ r ∧ Fo r ∧
  ∀ H' v, KeepR p H H' → RdAt C H' p l (i + l'.length) → l.drop (i + l'.length) = r → i + l'.length ≤ l.length → Dd K F0 H' v d → Q v H'
theorem nopl {z : Str} {i : Nat} {m : Str} (h : (!decide (m = "place") && !decide (m = "text")) = true) : (fl z i).lookup m = none := by
  rw [Bool.and_eq_true, Bool.not_eq_true', Bool.not_eq_true', decide_eq_false_iff_not, decide_eq_false_iff_not] at h
  exact fl_no _ _ h.1 h.2
theorem ops_split {o : Str} (h : o ∈ ops5) : ∃ as bs, ops5 = as ++ o :: bs ∧ ∀ a, a ∈ as → ∀ r, (wd a).isPrefixOf (wd o ++ r) = false := by
  simp only [ops5, List.mem_cons, List.not_mem_nil, or_false] at h
  rcases h with rfl | rfl | rfl | rfl | rfl
  · exact ⟨[], _, rfl, fun a ha => nomatch ha⟩
  · exact ⟨["+"], _, rfl, fun a ha r => by simp only [List.mem_cons, List.not_mem_nil, or_false] at ha; rcases ha with rfl; rfl⟩
  · exact ⟨["+", "-"], _, rfl, fun a ha r => by simp only [List.mem_cons, List.not_mem_nil, or_false] at ha; rcases ha with rfl | rfl <;> rfl⟩
  · exact ⟨["+", "-", "*"], _, rfl, fun a ha r => by simp only [List.mem_cons, List.not_mem_nil, or_false] at ha; rcases ha with rfl | rfl | rfl <;> rfl⟩
  · exact ⟨["+", "-", "*", "<"], _, rfl, fun a ha r => by simp only [List.mem_cons, List.not_mem_nil, or_false] at ha; rcases ha with rfl | rfl | rfl | rfl <;> rfl⟩
abbrev s_take_operation : Stmt := topS 28
theorem sc_take_operation : FnScope ["reader", "room", "one", "word", "other"] ["reader", "room"] (defScope s_take_operation) := ⟨rfl, rfl, rfl, by decide +kernel, rfl, by decide +kernel, by decide +kernel⟩
def sp_top (K : PySem.W.Frag) (C : Addr) (n : Nat) : Sp := fun vs H Q _ => ∃ (p : Addr) (l r l1 l2 : List Nat) (i : Nat) (o : Str) (x y : PyData) (rm : Int), vs = [.ref p, .int rm] ∧ (n : Int) + 1 ≤ rm ∧ RdAt C H p l i ∧ i ≤ l.length ∧ l.length ≤ 8000000 ∧ o ∈ ops5 ∧ Tx n x l1 ∧ Tx n y l2 ∧
  l.drop i = (40 :: (l1 ++ (32 :: (wd o ++ (32 :: (l2 ++ [41])))))) ++ r ∧
  ∀ H' v, KeepR p H H' → RdAt C H' p l (i + (40 :: (l1 ++ (32 :: (wd o ++ (32 :: (l2 ++ [41])))))).length) → l.drop (i + (40 :: (l1 ++ (32 :: (wd o ++ (32 :: (l2 ++ [41])))))).length) = r → i + (40 :: (l1 ++ (32 :: (wd o ++ (32 :: (l2 ++ [41])))))).length ≤ l.length → Dd K F0 H' v (.tuple [.str o, x, y]) → Q v H'
theorem ok_take_operation {f C aO : Addr} {fd : FuncData} {k n : Nat} (F : Fun K "take_operation" "take_operation" s_take_operation f fd) (R : RdM P w K mg base C k) (X : DF P w K mg base "take_expression" ["reader", "room"] (sp_texp K C n) k)
    (mO : mg "OPERATIONS" = some (.ref aO)) (TO : KTx K aO ops5) : FnOk P w K mg base CX0 (k + 1) f fd ["reader", "room"] (sp_top K C n) := by
  have nd := sc_take_operation.nd
  refine F.ok sc_take_operation (fun vs H Q E h => ?_) (fun cdv A outer s H vs Q E hr h => ?_)
  · obtain ⟨p, l, r, l1, l2, i, o, x, y, rm, rfl, _⟩ := h
    rfl
  obtain ⟨p, l, r, l1, l2, i, o, x, y, rm, rfl, hrm, rd, hi, hl, ho, hx, hy, hd, qq⟩ := h
  obtain ⟨ft, dt, Gt, mt, bt⟩ := R.take
  obtain ⟨fa, da, Ga, ma, ba⟩ := R.tany
  obtain ⟨fx, dxx, Gx, gx, Kx, bx⟩ := X
  have T := R.T
  refine ⟨_, (pss_cons (ps_expr (pe_meth (pv 0) T.cl mt Gt hr bt .nil pass0 (pa_cons pe_str pa_nil)))
      (pss_cons (ps_set (i := 2) nd rfl (.inl rfl) (pe_call Gx hr (by rfl) gx Kx bx .nil pass0 (pa_cons (pv 0) (pa_cons (pe_op op_sub (pv 1) pe_int) pa_nil))))
      (pss_cons (ps_expr (pe_meth (pv 0) T.cl mt Gt hr bt .nil pass0 (pa_cons pe_str pa_nil)))
      (pss_cons (ps_set (i := 3) nd rfl (.inl rfl) (pe_meth (pv 0) T.cl ma Ga hr ba .nil pass0 (pa_cons (pe_glob (v := .ref aO) rfl mO rfl) pa_nil)))
      (pss_cons (ps_expr (pe_meth (pv 0) T.cl mt Gt hr bt .nil pass0 (pa_cons pe_str pa_nil)))
      (pss_cons (ps_set (i := 4) nd rfl (.inl rfl) (pe_call Gx hr (by rfl) gx Kx bx .nil pass0 (pa_cons (pv 0) (pa_cons (pe_op op_sub (pv 1) pe_int) pa_nil))))
      (pss_cons (ps_expr (pe_meth (pv 0) T.cl mt Gt hr bt .nil pass0 (pa_cons pe_str pa_nil)))
      (pss_one (ps_ret (pe_tup (pa_cons (pv 3) (pa_cons (pv 2) (pa_cons (pv 4) pa_nil))))))))))))), ?_⟩
  have tk : ∀ {i : Nat} {H : Hp}, RdAt C H p l i → ∃ dx, H p = some (.ins C dx (fl (S l) i)) := fun h => h
  obtain ⟨dx, hp⟩ := tk rd
  refine ⟨.ref p, rfl, p, dx, _, rfl, hp, nopl (by decide +kernel), p, l, [40], l1 ++ (32 :: (wd o ++ (32 :: (l2 ++ [41])))) ++ r, i, rfl, rd, hi, hd, hl, fun H1 k1 r1 d1 e1 => ?_⟩
  refine ⟨.ref p, rfl, .int rm, rfl, rm, 1, rfl, rfl, p, l, l1, (32 :: (wd o ++ (32 :: (l2 ++ [41])))) ++ r, i + ([40] : List Nat).length, x, rm - 1, rfl, by omega, r1, e1, hl, hx, by rw [d1, List.append_assoc], Fo.c (.inl rfl), fun H2 v1 k2 r2 d2 e2 hv1 => ?_⟩
  obtain ⟨dx2, hp2⟩ := tk r2
  refine ⟨.ref p, rfl, p, dx2, _, rfl, hp2, nopl (by decide +kernel), p, l, [32], (wd o ++ (32 :: (l2 ++ [41]))) ++ r, _, rfl, r2, e2, d2, hl, fun H3 k3 r3 d3 e3 => ?_⟩
  obtain ⟨as, bs, eo, hno⟩ := ops_split ho
  obtain ⟨dx3, hp3⟩ := tk r3
  refine ⟨.ref p, rfl, p, dx3, _, rfl, hp3, nopl (by decide +kernel), p, aO, l, (32 :: (l2 ++ [41])) ++ r, _, as, bs, o, rfl, by rw [← eo]; exact TO H3, r3, e3, hl, fun a ha => by rw [d3, List.append_assoc]; exact hno a ha _, by rw [d3, List.append_assoc], fun H4 k4 r4 d4 e4 => ?_⟩
  obtain ⟨dx4, hp4⟩ := tk r4
  refine ⟨.ref p, rfl, p, dx4, _, rfl, hp4, nopl (by decide +kernel), p, l, [32], (l2 ++ [41]) ++ r, _, rfl, r4, e4, d4, hl, fun H5 k5 r5 d5 e5 => ?_⟩
  refine ⟨.ref p, rfl, .int rm, rfl, rm, 1, rfl, rfl, p, l, l2, [41] ++ r, _, y, rm - 1, rfl, by omega, r5, e5, hl, hy, by rw [d5, List.append_assoc], Fo.c (.inr (.inl rfl)), fun H6 v2 k6 r6 d6 e6 hv2 => ?_⟩
  obtain ⟨dx6, hp6⟩ := tk r6
  refine ⟨.ref p, rfl, p, dx6, _, rfl, hp6, nopl (by decide +kernel), p, l, [41], r, _, rfl, r6, e6, d6, hl, fun H7 k7 r7 d7 e7 => ?_⟩
  refine ⟨.str o, rfl, v1, rfl, v2, rfl, small_le (show 3 ≤ 1000 by decide), fun t nt => ?_⟩
  have ej : i + ([40] : List Nat).length + l1.length + ([32] : List Nat).length + (wd o).length + ([32] : List Nat).length + l2.length + ([41] : List Nat).length = i + (40 :: (l1 ++ (32 :: (wd o ++ (32 :: (l2 ++ [41])))))).length := by
    simp only [List.length_cons, List.length_append, List.length_nil]
    omega
  rw [ej] at r7 d7 e7
  have st := same_upd (o := .tup [.str o, v1, v2]) nt
  have k27 := ((((k3.trans k4).trans k5).trans k6).trans k7)
  exact qq _ _ ((((k1.trans k2).trans k27)).trans (KeepR.of st)) (r7.same st) d7 e7
    (.tup (.inl (.inl upd_same)) (.cons (.str o) (.cons (((hv1.keep (r2.o k27)).keep (KeepO.of st))) (.cons ((hv2.keep (r6.o k7)).keep (KeepO.of st)) .nil))))
abbrev s_take_cell : Stmt := topS 29
theorem sc_take_cell : FnScope ["reader", "table", "room", "key"] ["reader", "table", "room"] (defScope s_take_cell) := ⟨rfl, rfl, rfl, by decide +kernel, rfl, by decide +kernel, by decide +kernel⟩
def sp_tcell (K : PySem.W.Frag) (C : Addr) (n : Nat) : Sp := fun vs H Q _ => ∃ (p : Addr) (l r l1 : List Nat) (i : Nat) (t c : Str) (x : PyData) (rm : Int), vs = [.ref p, .str t, .int rm] ∧ (n : Int) + 1 ≤ rm ∧ RdAt C H p l i ∧ i ≤ l.length ∧ l.length ≤ 8000000 ∧ Nm c ∧ Tx n x l1 ∧ Fo r ∧
  l.drop i = (91 :: (l1 ++ (93 :: 46 :: wd c))) ++ r ∧
  ∀ H' v, KeepR p H H' → RdAt C H' p l (i + (91 :: (l1 ++ (93 :: 46 :: wd c))).length) → l.drop (i + (91 :: (l1 ++ (93 :: 46 :: wd c))).length) = r → i + (91 :: (l1 ++ (93 :: 46 :: wd c))).length ≤ l.length → Dd K F0 H' v (.tuple [.str "cell", .str t, x, .str c]) → Q v H'
theorem ok_take_cell {f C : Addr} {fd : FuncData} {k n : Nat} (F : Fun K "take_cell" "take_cell" s_take_cell f fd) (R : RdM P w K mg base C k) (X : DF P w K mg base "take_expression" ["reader", "room"] (sp_texp K C n) k) :
    FnOk P w K mg base CX0 (k + 1) f fd ["reader", "table", "room"] (sp_tcell K C n) := by
  have nd := sc_take_cell.nd
  refine F.ok sc_take_cell (fun vs H Q E h => ?_) (fun cdv A outer s H vs Q E hr h => ?_)
  · obtain ⟨p, l, r, l1, i, t, c, x, rm, rfl, _⟩ := h
    rfl
  obtain ⟨p, l, r, l1, i, t, c, x, rm, rfl, hrm, rd, hi, hl, hc, hx, hr', hd, qq⟩ := h
  obtain ⟨ft, dt, Gt, mt, bt⟩ := R.take
  obtain ⟨fa, da, Ga, ma, ba⟩ := R.tname
  obtain ⟨fx, dxx, Gx, gx, Kx, bx⟩ := X
  have T := R.T
  refine ⟨_, (pss_cons (ps_expr (pe_meth (pv 0) T.cl mt Gt hr bt .nil pass0 (pa_cons pe_str pa_nil)))
      (pss_cons (ps_set (i := 3) nd rfl (.inl rfl) (pe_call Gx hr (by rfl) gx Kx bx .nil pass0 (pa_cons (pv 0) (pa_cons (pe_op op_sub (pv 2) pe_int) pa_nil))))
      (pss_cons (ps_expr (pe_meth (pv 0) T.cl mt Gt hr bt .nil pass0 (pa_cons pe_str pa_nil)))
      (pss_one (ps_ret (pe_tup (pa_cons pe_str (pa_cons (pv 1) (pa_cons (pv 3) (pa_cons (pe_meth0 (pv 0) T.cl ma Ga hr ba .nil pass0) pa_nil)))))))))), ?_⟩
  have tk : ∀ {i : Nat} {H : Hp}, RdAt C H p l i → ∃ dx, H p = some (.ins C dx (fl (S l) i)) := fun h => h
  obtain ⟨dx, hp⟩ := tk rd
  refine ⟨.ref p, rfl, p, dx, _, rfl, hp, nopl (by decide +kernel), p, l, [91], l1 ++ (93 :: 46 :: wd c) ++ r, i, rfl, rd, hi, hd, hl, fun H1 k1 r1 d1 e1 => ?_⟩
  refine ⟨.ref p, rfl, .int rm, rfl, rm, 1, rfl, rfl, p, l, l1, (93 :: 46 :: wd c) ++ r, i + ([91] : List Nat).length, x, rm - 1, rfl, by omega, r1, e1, hl, hx, by rw [d1, List.append_assoc], Fo.c (.inr (.inr (.inr rfl))), fun H2 v1 k2 r2 d2 e2 hv1 => ?_⟩
  obtain ⟨dx2, hp2⟩ := tk r2
  refine ⟨.ref p, rfl, p, dx2, _, rfl, hp2, nopl (by decide +kernel), p, l, [93, 46], wd c ++ r, _, rfl, r2, e2, d2, hl, fun H3 k3 r3 d3 e3 => ?_⟩
  obtain ⟨dx3, hp3⟩ := tk r3
  refine ⟨.str t, rfl, v1, rfl, .ref p, rfl, p, dx3, _, rfl, hp3, nopl (by decide +kernel), p, l, r, c, _, rfl, r3, e3, hl, hc, d3, hr'.l26, fun H4 k4 r4 d4 e4 => ⟨small_le (show 4 ≤ 1000 by decide), fun a na => ?_⟩⟩
  have ej : i + ([91] : List Nat).length + l1.length + ([93, 46] : List Nat).length + (wd c).length = i + (91 :: (l1 ++ (93 :: 46 :: wd c))).length := by
    simp only [List.length_cons, List.length_append, List.length_nil]
    omega
  rw [ej] at r4 d4 e4
  have st := same_upd (o := .tup [.str "cell", .str t, v1, .str c]) na
  have k24 := k3.trans k4
  exact qq _ _ (((k1.trans k2).trans k24).trans (KeepR.of st)) (r4.same st) d4 e4
    (.tup (.inl (.inl upd_same)) (.cons (.str _) (.cons (.str t) (.cons ((hv1.keep (r2.o k24)).keep (KeepO.of st)) (.cons (.str c) .nil)))))
end
end K7

/-! calls are read -/
namespace K7
open PySem PySem.Spec PyProof.Rows L2 GR AD RZ WX ZE TX RVT
open SX (S S_cat S_len S_inj)
open _root_.StX (pa_star)
/-- what follows the first of some texts -/
def cR : List (List Nat) → List Nat
  | [] => []
  | l :: ls => 44 :: 32 :: (l ++ cR ls)
theorem commas_cons (l : List Nat) : ∀ ls : List (List Nat), commas (l :: ls) = l ++ cR ls
  | [] => by rw [cR, List.append_nil]; rfl
  | m :: ls => by
    show l ++ ([44, 32] ++ commas (m :: ls)) = _
    rw [commas_cons m ls]
    rfl
theorem fo_cR (ls : List (List Nat)) {r : List Nat} (h : Fo r) : Fo (cR ls ++ r) := by
  cases ls with
  | nil => exact h
  | cons l ls => exact Fo.c (.inr (.inr (.inl rfl)))
/-- the numbers of arguments -/
abbrev argk : List (Str × Nat) := [("if", 3), ("at", 2), ("count", 1), ("sum", 2), ("most", 3), ("first", 2)]
structure ArgT (K : PySem.W.Frag) (w : World) (aA : Addr) (es : Array DictEntry) (n : Nat) : Prop where
  kd : KDict K w aA es n
  yes : ∀ o c, (o, c) ∈ argk → ∃ t, PySem.W.nsIn K aA o = some (some (.int (c : Nat) t))
/-- a call and the text behind its word -/
inductive Cl (n : Nat) (o : Str) : PyData → List Nat → Prop
  | call (xs : List PyData) (ls : List (List Nat)) : (o, xs.length) ∈ callk → ls.length = xs.length → (∀ p, p ∈ xs.zip ls → Tx n p.1 p.2) → Cl n o (.tuple (.str o :: xs)) (40 :: (commas ls ++ [41]))
  | agg (t : Str) (xs : List PyData) (ls : List (List Nat)) : 2 ≤ n → (o, xs.length) ∈ aggn → Nm t → ls.length = xs.length → (∀ p, p ∈ xs.zip ls → Tx n p.1 p.2) →
      Cl n o (.tuple (.str o :: .str t :: .tuple [] :: rowX t :: xs)) (40 :: (wd t ++ (44 :: 32 :: (commas ls ++ [41]))))
section
variable {P : Program} {w : World} {K : PySem.W.Frag} {mg : Str → Option Value} {base : Heap}
abbrev s_take_beginning : Stmt := topS 31
theorem sc_take_beginning : FnScope ["reader", "word", "room", "table"] ["reader", "word", "room"] (defScope s_take_beginning) := ⟨rfl, rfl, rfl, by decide +kernel, rfl, by decide +kernel, by decide +kernel⟩
def sp_tbeg (K : PySem.W.Frag) (C : Addr) : Sp := fun vs H Q _ => ∃ (p : Addr) (l r : List Nat) (i : Nat) (o t : Str) (rm : Int), vs = [.ref p, .str o, .int rm] ∧ 3 ≤ rm ∧ RdAt C H p l i ∧ i ≤ l.length ∧ l.length ≤ 8000000 ∧ Nm t ∧ l.drop i = wd t ++ (44 :: 32 :: r) ∧
  ∀ H' a ws, KeepR p H H' → RdAt C H' p l (i + (wd t).length + 2) → l.drop (i + (wd t).length + 2) = r → i + (wd t).length + 2 ≤ l.length → SqT K H' a ws → DdAll K F0 H' ws [.str o, .str t, .tuple [], rowX t] → Q (.ref a) H'
theorem ok_take_beginning {f C : Addr} {fd : FuncData} {k : Nat} {tk : Tok} (F : Fun K "take_beginning" "take_beginning" s_take_beginning f fd) (R : RdM P w K mg base C k) (X : DF P w K mg base "rows_of" ["table"] (sp_rows_of K) k)
    (mD : mg "DEPTH_OF_ROWS" = some (.int 2 tk)) : FnOk P w K mg base CX0 (k + 1) f fd ["reader", "word", "room"] (sp_tbeg K C) := by
  have nd := sc_take_beginning.nd
  refine F.ok sc_take_beginning (fun vs H Q E h => ?_) (fun cdv A outer s H vs Q E hr h => ?_)
  · obtain ⟨p, l, r, i, o, t, rm, rfl, _⟩ := h
    rfl
  obtain ⟨p, l, r, i, o, t, rm, rfl, hrm, rd, hi, hl, ht, hd, qq⟩ := h
  obtain ⟨ft, dt, Gt, mt, bt⟩ := R.take
  obtain ⟨fa, da, Ga, ma, ba⟩ := R.tname
  obtain ⟨fx, dxx, Gx, gx, Kx, bx⟩ := X
  have T := R.T
  refine ⟨_, (pss_cons (ps_if (pt_cmpR op_lt (pe_op op_sub (pv 2) pe_int) (pe_glob (v := .int 2) rfl mD ⟨_, rfl⟩) (nomark _))
      (pss_one ps_never)
      pss_nil)
      (pss_cons (ps_set (i := 3) nd rfl (.inl rfl) (pe_meth0 (pv 0) T.cl ma Ga hr ba .nil pass0))
      (pss_cons (ps_expr (pe_meth (pv 0) T.cl mt Gt hr bt .nil pass0 (pa_cons pe_str pa_nil)))
      (pss_one (ps_ret (pe_tup (pa_cons (pv 1) (pa_cons (pv 3) (pa_cons (pe_tup pa_nil) (pa_cons (pe_call Gx hr (by rfl) gx Kx bx .nil pass0 (pa_cons (pv 3) pa_nil)) pa_nil)))))))))), ?_⟩
  have tk : ∀ {i : Nat} {H : Hp}, RdAt C H p l i → ∃ dx, H p = some (.ins C dx (fl (S l) i)) := fun h => h
  obtain ⟨dx, hp⟩ := tk rd
  refine ⟨.int rm, rfl, rm, 1, rfl, rfl, rm - 1, 2, rfl, rfl, _, rfl, ?_⟩
  rw [decide_eq_false (show ¬ rm - 1 < 2 by omega)]
  refine iteF ⟨.ref p, rfl, p, dx, _, rfl, hp, nopl (by decide +kernel), p, l, (44 :: 32 :: r), t, i, rfl, rd, hi, hl, ht, hd, (Fo.c (.inr (.inr (.inl rfl)))).l26, fun H1 k1 r1 d1 e1 => ?_⟩
  obtain ⟨dx1, hp1⟩ := tk r1
  refine ⟨.ref p, rfl, p, dx1, _, rfl, hp1, nopl (by decide +kernel), p, l, [44, 32], r, _, rfl, r1, e1, d1, hl, fun H2 k2 r2 d2 e2 => ?_⟩
  refine ⟨.str o, rfl, .str t, rfl, small_le (show 0 ≤ 1000 by decide), fun b nb => ⟨.str t, rfl, t, rfl, fun H3 v s3 hv => ⟨small_le (show 4 ≤ 1000 by decide), fun a na => ?_⟩⟩⟩
  have sb := same_upd (o := .tup []) nb
  have sa := same_upd (o := .tup [.str o, .str t, .ref b, v]) na
  exact qq _ a _ ((k1.trans k2).trans (KeepR.of ((sb.trans s3).trans sa))) (((r2.same sb).same s3).same sa) d2 e2 (.inl (.inl upd_same))
    (.cons (.str o) (.cons (.str t) (.cons (.tup (.inl (.inl (sa _ _ (s3 _ _ upd_same)))) .nil) (.cons ((dd_of _ _ (by rfl) hv).keep (KeepO.of sa)) .nil))))
abbrev s_take_arguments : Stmt := topS 32
theorem sc_take_arguments : FnScope ["reader", "many", "room", "found"] ["reader", "many", "room"] (defScope s_take_arguments) := ⟨rfl, rfl, rfl, by decide +kernel, rfl, by decide +kernel, by decide +kernel⟩
def sp_targ (K : PySem.W.Frag) (C : Addr) (n : Nat) : Sp := fun vs H Q _ => ∃ (p : Addr) (l r : List Nat) (i m : Nat) (xs : List PyData) (ls : List (List Nat)) (rm : Int), vs = [.ref p, .int (m : Int), .int rm] ∧ (n : Int) + 1 ≤ rm ∧ RdAt C H p l i ∧ i ≤ l.length ∧ l.length ≤ 8000000 ∧ xs.length = m ∧ ls.length = xs.length ∧ 1 ≤ m ∧ m ≤ 3 ∧
  (∀ q, q ∈ xs.zip ls → Tx n q.1 q.2) ∧ l.drop i = commas ls ++ r ∧ Fo r ∧
  ∀ H' L us, KeepR p H H' → RdAt C H' p l (i + (commas ls).length) → l.drop (i + (commas ls).length) = r → i + (commas ls).length ≤ l.length → H' L = some (.lst us) → DdAll K F0 H' us xs → Q (.ref L) H'
/-- what was read, and what is still to read -/
def AInv (K : PySem.W.Frag) (C : Addr) (n : Nat) (p L : Addr) (l r : List Nat) (k m : Nat) (rm : Int) (xs : List PyData) (H0 : Hp) (q : Nat) (σ : L2.St) (H : Hp) : Prop :=
  ∃ (us : List V) (as bs : List PyData) (ms : List (List Nat)) (j : Nat), σ = [some (.ref p), some (.int (m : Int)), some (.int rm), some (.ref L)] ∧ H L = some (.lst us) ∧ DdAll K F0 H us as ∧ xs = as ++ bs ∧ bs.length = q ∧ ms.length = bs.length ∧ (∀ q, q ∈ bs.zip ms → Tx n q.1 q.2) ∧
    RdAt C H p l j ∧ j ≤ l.length ∧ l.drop j = cR ms ++ r ∧ j + (cR ms).length = k ∧ KeepR p H0 H
theorem ok_take_arguments {f C : Addr} {fd : FuncData} {k n : Nat} (F : Fun K "take_arguments" "take_arguments" s_take_arguments f fd) (R : RdM P w K mg base C k) (X : DF P w K mg base "take_expression" ["reader", "room"] (sp_texp K C n) k)
    (mlen : mg "len" = none) : FnOk P w K mg base CX0 (k + 1) f fd ["reader", "many", "room"] (sp_targ K C n) := by
  have nd := sc_take_arguments.nd
  refine F.ok sc_take_arguments (fun vs H Q E h => ?_) (fun cdv A outer s H vs Q E hr h => ?_)
  · obtain ⟨p, l, r, i, m, xs, ls, rm, rfl, _⟩ := h
    rfl
  obtain ⟨p, l, r, i, m, xs, ls, rm, rfl, hrm, rd, hi, hl, hxm, hlx, hm1, hm3, hts, hd, hr', qq⟩ := h
  obtain ⟨ft, dt, Gt, mt, bt⟩ := R.take
  obtain ⟨fx, dxx, Gx, gx, Kx, bx⟩ := X
  have T := R.T
  refine ⟨_, (pss_cons (ps_set (i := 3) nd rfl (.inl rfl) (pe_lst (pa_cons (pe_call Gx hr (by rfl) gx Kx bx .nil pass0 (pa_cons (pv 0) (pa_cons (pe_op op_sub (pv 2) pe_int) pa_nil))) pa_nil)))
      (pss_cons (ps_while PassesOwn.never (pt_cmpR op_lt (pe_callB call_len_seq (by rfl) mlen PySem.boot_len (pa_cons (pv 3) pa_nil)) (pv 1) (nomark _))
      (pss_cons (ps_expr (pe_meth (pv 0) T.cl mt Gt hr bt .nil pass0 (pa_cons pe_str pa_nil)))
        (pss_one (ps_expr (pe_bm PySem.F.plainAttrs_list PySem.F.slot_list_append PySem.F.type_list_append mt_append (pv 3) (pa_cons (pe_call Gx hr (by rfl) gx Kx bx .nil pass0 (pa_cons (pv 0) (pa_cons (pe_op op_sub (pv 2) pe_int) pa_nil))) pa_nil))))))
      (pss_one (ps_ret (pv 3))))), ?_⟩
  have tk : ∀ {i : Nat} {H : Hp}, RdAt C H p l i → ∃ dx, H p = some (.ins C dx (fl (S l) i)) := fun h => h
  obtain ⟨dx, hp⟩ := tk rd
  obtain ⟨x, xs', rfl⟩ : ∃ x xs', xs = x :: xs' := by
    cases xs with
    | nil => rw [List.length_nil] at hxm; omega
    | cons x xs' => exact ⟨x, xs', rfl⟩
  obtain ⟨l1, ls', rfl⟩ : ∃ x xs', ls = x :: xs' := by
    cases ls with
    | nil => cases hlx
    | cons x xs' => exact ⟨x, xs', rfl⟩
  rw [commas_cons] at hd qq
  rw [List.append_assoc] at hd
  have hx : Tx n x l1 := hts (x, l1) (by rw [List.zip_cons_cons]; exact List.mem_cons_self)
  refine ⟨.ref p, rfl, .int rm, rfl, rm, 1, rfl, rfl, p, l, l1, cR ls' ++ r, i, x, rm - 1, rfl, by omega, rd, hi, hl, hx, hd, fo_cR _ hr', fun H1 v1 k1 r1 d1 e1 hv1 => ⟨small_le (show 1 ≤ 1000 by decide), fun L nL => ?_⟩⟩
  have sL := same_upd (o := .lst [v1]) nL
  have nL0 : ∀ o, H L = some o → L = p := fun o e => Classical.byContradiction fun hne => by
    have := k1 _ _ hne e
    rw [nL] at this
    cases this
  have hLp : L ≠ p := fun e => by
    obtain ⟨dx1, hp1⟩ := tk r1
    rw [e, hp1] at nL
    cases nL
  refine ⟨AInv K C n p L l r (i + (l1 ++ cR ls').length) m rm (x :: xs') H, ⟨xs'.length, [v1], [x], xs', ls', _, rfl, upd_same, .cons (hv1.keep (KeepO.of sL)) .nil, rfl, rfl, by simpa using hlx, fun q hq => hts q (by rw [List.zip_cons_cons]; exact List.mem_cons_of_mem _ hq), r1.same sL, e1, d1, ?_, k1.trans (KeepR.of sL)⟩, ?_⟩
  · rw [List.length_append]
    omega
  rintro q σ H' ⟨us, as, bs, ms, j, rfl, hL, hA, exs, hq, hms, htb, rj, hj, dj, ej, kk⟩
  have lA := hA.len
  have lx : as.length + bs.length = m := by rw [← hxm, exs, List.length_append]
  refine ⟨.ref L, rfl, L, us, rfl, .inl (.inl (.inl hL)), .int (m : Int), rfl, (us.length : Int), (m : Int), rfl, rfl, _, rfl, ?_⟩
  cases bs with
  | nil =>
    rw [List.length_nil] at lx
    rw [decide_eq_false (show ¬ (us.length : Int) < (m : Int) by omega)]
    rw [List.append_nil] at exs
    obtain rfl : ms = [] := List.length_eq_zero_iff.mp hms
    have ej : j = i + (l1 ++ cR ls').length := ej
    subst ej
    subst exs
    exact iteF ⟨.ref L, rfl, qq H' L us kk rj dj hj hL hA⟩
  | cons y bs =>
    rw [List.length_cons] at lx
    rw [decide_eq_true (show (us.length : Int) < (m : Int) by omega)]
    obtain ⟨l2, ms', rfl⟩ : ∃ x xs', ms = x :: xs' := by
      cases ms with
      | nil => cases hms
      | cons x xs' => exact ⟨x, xs', rfl⟩
    have dj' : l.drop j = [44, 32] ++ (l2 ++ (cR ms' ++ r)) := by
      rw [dj, cR, List.cons_append, List.cons_append, List.append_assoc]
      rfl
    have hy : Tx n y l2 := htb (y, l2) (by rw [List.zip_cons_cons]; exact List.mem_cons_self)
    obtain ⟨dxj, hpj⟩ := tk rj
    refine iteT ⟨fun σ' H'' => ∃ q', q' < q ∧ AInv K C n p L l r (i + (l1 ++ cR ls').length) m rm (x :: xs') H q' σ' H'', fun σ' H'' h => h, ?_⟩
    refine ⟨.ref p, rfl, p, dxj, _, rfl, hpj, nopl (by decide +kernel), p, l, [44, 32], l2 ++ (cR ms' ++ r), j, rfl, rj, hj, dj', hl, fun H2 k2 r2 d2 e2 => ?_⟩
    have hL2 := k2 _ _ hLp hL
    refine ⟨.ref L, rfl, .inl ⟨rfl, _, .inl (.inl hL2)⟩, .ref p, rfl, .int rm, rfl, rm, 1, rfl, rfl, p, l, l2, cR ms' ++ r, _, y, rm - 1, rfl, by omega, r2, e2, hl, hy, d2, fo_cR _ hr', fun H3 v3 k3 r3 d3 e3 hv3 => ?_⟩
    have hL3 := k3 _ _ hLp hL2
    have k4 : KeepT H3 (upd H3 L (.lst (us ++ [v3]))) := KeepT.lst hL3
    refine ⟨L, us, v3, rfl, rfl, hL3, small1000 (by omega), bs.length, by rw [← hq, List.length_cons]; omega, us ++ [v3], as ++ [y], bs, ms', j + ([44, 32] : List Nat).length + l2.length, rfl, upd_same, ?_, ?_, rfl, by simpa using hms, fun q hq => htb q (by rw [List.zip_cons_cons]; exact List.mem_cons_of_mem _ hq), ?_, e3, d3, ?_, ?_⟩
    · exact DdAll.app ((hA.keep (rj.o (k2.trans k3))).keep (kf0 k4)) (.cons (hv3.keep (kf0 k4)) .nil)
    · rw [exs, List.append_assoc]
      rfl
    · obtain ⟨dx3, hp3⟩ := r3
      exact ⟨dx3, by rw [upd_ne hLp.symm]; exact hp3⟩
    · rw [← ej, cR]
      simp only [List.length_cons, List.length_append, List.length_nil]
      omega
    · intro b o hb e
      by_cases hbL : b = L
      · subst hbL
        exact absurd (nL0 o e) hb
      · rw [upd_ne hbL]
        exact k3 _ _ hb (k2 _ _ hb (kk _ _ hb e))
end
end K7

/-! expressions are read: calls, all -/
namespace K7
open PySem PySem.Spec PyProof.Rows L2 GR AD RZ WX ZE TX RVT
open SX (S S_cat S_len S_inj)
open _root_.StX (pa_star)
section
variable {P : Program} {w : World} {K : PySem.W.Frag} {mg : Str → Option Value} {base : Heap}
abbrev s_take_call : Stmt := topS 30
theorem sc_take_call : FnScope ["reader", "word", "room", "beginning", "arguments"] ["reader", "word", "room"] (defScope s_take_call) := ⟨rfl, rfl, rfl, by decide +kernel, rfl, by decide +kernel, by decide +kernel⟩
def sp_tcall (K : PySem.W.Frag) (C : Addr) (n : Nat) : Sp := fun vs H Q _ => ∃ (p : Addr) (l l' r : List Nat) (i : Nat) (d : PyData) (o : Str) (rm : Int), vs = [.ref p, .str o, .int rm] ∧ (n : Int) + 1 ≤ rm ∧ RdAt C H p l i ∧ i ≤ l.length ∧ l.length ≤ 8000000 ∧ Cl n o d l' ∧ l.drop i = l' ++ r ∧
  ∀ H' v, KeepR p H H' → RdAt C H' p l (i + l'.length) → l.drop (i + l'.length) = r → i + l'.length ≤ l.length → Dd K F0 H' v d → Q v H'
/-- what is begun, and the arguments that follow -/
inductive Bg (n : Nat) (o : Str) : PyData → List Nat → List PyData → List PyData → List (List Nat) → Prop
  | mk (ds xs : List PyData) (ls : List (List Nat)) (u : List Nat) : ls.length = xs.length → (∀ p, p ∈ xs.zip ls → Tx n p.1 p.2) → (o, xs.length) ∈ argk → ds.length ≤ 4 → Bg n o (.tuple (ds ++ xs)) (40 :: (u ++ (commas ls ++ [41]))) ds xs ls
theorem ok_take_call {f C aA aG : Addr} {es : Array DictEntry} {nA : Nat} {fd : FuncData} {k n : Nat} (F : Fun K "take_call" "take_call" s_take_call f fd) (R : RdM P w K mg base C k)
    (XB : DF P w K mg base "take_beginning" ["reader", "word", "room"] (sp_tbeg K C) k) (XA : DF P w K mg base "take_arguments" ["reader", "many", "room"] (sp_targ K C n) k)
    (mA : mg "ARGUMENTS" = some (.ref aA)) (D : ArgT K w aA es nA) (mG : mg "AGGREGATES" = some (.ref aG)) (TG : KTx K aG aggW) : FnOk P w K mg base CX0 (k + 1) f fd ["reader", "word", "room"] (sp_tcall K C n) := by
  have nd := sc_take_call.nd
  refine F.ok sc_take_call (fun vs H Q E h => ?_) (fun cdv A outer s H vs Q E hr h => ?_)
  · obtain ⟨p, l, l', r, i, d, o, rm, rfl, _⟩ := h
    rfl
  obtain ⟨p, l, l', r, i, d, o, rm, rfl, hrm, rd, hi, hl, hc, hd, qq⟩ := h
  obtain ⟨ft, dt, Gt, mt, bt⟩ := R.take
  obtain ⟨fB, dB, GB, gB, KB, bB⟩ := XB
  obtain ⟨fA, dA, GA, gA, KA, bA⟩ := XA
  have T := R.T
  refine ⟨_, (pss_cons (ps_if (pt_cmpR (op_notIn_kd D.kd) (pv 1) (pe_glob (v := .ref aA) rfl mA rfl) (by rfl))
      (pss_one ps_never)
      pss_nil)
      (pss_cons (ps_expr (pe_meth (pv 0) T.cl mt Gt hr bt .nil pass0 (pa_cons pe_str pa_nil)))
      (Evl.pss_cut (ps_if (pt_cmpR op_in_seq (pv 1) (pe_glob (v := .ref aG) rfl mG rfl) (by rfl))
      (pss_one (ps_set (i := 3) nd rfl (.inl rfl) (pe_call GB hr (by rfl) gB KB bB .nil pass0 (pa_cons (pv 0) (pa_cons (pv 1) (pa_cons (pv 2) pa_nil))))))
      (pss_one (ps_set (i := 3) nd rfl (.inl rfl) (pe_tup (pa_cons (pv 1) pa_nil)))))
      (pss_cons (ps_set (i := 4) nd rfl (.inl rfl) (pe_call GA hr (by rfl) gA KA bA .nil pass0 (pa_cons (pv 0) (pa_cons (pe_ix ix_kdict (pe_glob (v := .ref aA) rfl mA rfl) (pv 1) (fun _ _ => rfl)) (pa_cons (pv 2) pa_nil)))))
      (pss_cons (ps_expr (pe_meth (pv 0) T.cl mt Gt hr bt .nil pass0 (pa_cons pe_str pa_nil)))
      (pss_one (ps_ret (pe_tup (pa_star (pv 3) (pa_star (pv 4) pa_nil)))))))))), ?_⟩
  have tk : ∀ {i : Nat} {H : Hp}, RdAt C H p l i → ∃ dx, H p = some (.ins C dx (fl (S l) i)) := fun h => h
  obtain ⟨dx, hp⟩ := tk rd
  have hk : ∃ c, (o, c) ∈ argk := by
    cases hc with
    | call xs ls ho _ _ => exact ⟨_, List.mem_append_left ([("count", 1), ("sum", 2), ("most", 3), ("first", 2)] : List (Str × Nat)) ho⟩
    | agg t xs ls _ ho _ _ _ => exact ⟨_, List.mem_append_right ([("if", 3), ("at", 2)] : List (Str × Nat)) ho⟩
  obtain ⟨c, hk⟩ := hk
  obtain ⟨tc, hn⟩ := D.yes o c hk
  obtain ⟨l0, rfl⟩ : ∃ l0, l' = 40 :: l0 := by
    cases hc with
    | call xs ls ho _ _ => exact ⟨_, rfl⟩
    | agg t xs ls _ ho _ _ _ => exact ⟨_, rfl⟩
  refine ⟨.str o, rfl, o, _, rfl, rfl, hn, _, rfl, iteF ⟨.ref p, rfl, p, dx, _, rfl, hp, nopl (by decide +kernel), p, l, [40], l0 ++ r, i, rfl, rd, hi, hd, hl, fun H1 k1 r1 d1 e1 => ?_⟩⟩
  obtain ⟨dx1, hp1⟩ := tk r1
  refine ⟨fun σ' H' => ∃ (b : Addr) (ws : List V) (ds xs : List PyData) (ls : List (List Nat)) (j : Nat), σ' = [some (.ref p), some (.str o), some (.int rm), some (.ref b), none] ∧ SqT K H' b ws ∧ DdAll K F0 H' ws ds ∧ ds.length ≤ 4 ∧ d = .tuple (ds ++ xs) ∧ ls.length = xs.length ∧ (∀ p, p ∈ xs.zip ls → Tx n p.1 p.2) ∧
    (o, xs.length) ∈ argk ∧ RdAt C H' p l j ∧ j ≤ l.length ∧ l.drop j = commas ls ++ ([41] ++ r) ∧ j + (commas ls).length + 1 = i + (40 :: l0).length ∧ KeepR p H H', ?_, ?_⟩
  · refine ⟨.str o, rfl, aG, aggW.map V.str, rfl, .inr (TG H1), rfl, flat_strsW _, _, rfl, ?_⟩
    show if inV (.str o) (aggW.map V.str) = true then _ else _
    rw [in_strs]
    generalize el0 : 40 :: l0 = l9 at *
    cases hc with
    | call xs ls ho hl1 hts =>
      have n6 : o ∉ aggW := by
        simp only [callk, List.mem_cons, List.not_mem_nil, or_false, Prod.mk.injEq] at ho
        rcases ho with ⟨rfl, e⟩ | ⟨rfl, e⟩ <;> decide
      rw [decide_eq_false n6]
      injection el0 with _ el0
      subst el0
      refine iteF ⟨.str o, rfl, small_le (show 1 ≤ 1000 by decide), fun b nb => ?_⟩
      have sb := same_upd (o := .tup [.str o]) nb
      refine ⟨b, [.str o], [.str o], xs, ls, i + 1, rfl, .inl (.inl upd_same), .cons (.str o) .nil, (by show 1 ≤ 4; decide), rfl, hl1, hts, List.mem_append_left ([("count", 1), ("sum", 2), ("most", 3), ("first", 2)] : List (Str × Nat)) ho, r1.same sb, e1, ?_, ?_, k1.trans (KeepR.of sb)⟩
      · rw [← List.append_assoc]
        exact d1
      · simp only [List.length_cons, List.length_append, List.length_nil]
        omega
    | agg t xs ls h2 ho ht hl1 hts =>
      have n6 : o ∈ aggW := by
        simp only [aggn, List.mem_cons, List.not_mem_nil, or_false, Prod.mk.injEq] at ho
        rcases ho with ⟨rfl, e⟩ | ⟨rfl, e⟩ | ⟨rfl, e⟩ | ⟨rfl, e⟩ <;> decide
      rw [decide_eq_true n6]
      injection el0 with _ el0
      subst el0
      refine iteT ⟨.ref p, rfl, .str o, rfl, .int rm, rfl, p, l, (commas ls ++ [41]) ++ r, _, o, t, rm, rfl, by omega, r1, e1, hl, ht, ?_, fun H2 b ws k2 r2 d2 e2 hb hw => ?_⟩
      · rw [d1, List.append_assoc]
        rfl
      refine ⟨b, ws, [.str o, .str t, .tuple [], rowX t], xs, ls, _, rfl, hb, hw, (by show 4 ≤ 4; decide), rfl, hl1, hts, List.mem_append_right ([("if", 3), ("at", 2)] : List (Str × Nat)) ho, r2, e2, ?_, ?_, k1.trans k2⟩
      · rw [← List.append_assoc]
        exact d2
      · simp only [List.length_cons, List.length_append, List.length_nil]
        omega
  rintro σ' H3 ⟨b, ws, ds, xs, ls, j, rfl, hb, hw, hds, rfl, hlx, hts, hok, r3, e3, d3, ej, k3⟩
  obtain ⟨t3, hn3⟩ := D.yes _ _ hok
  have hxl : 1 ≤ xs.length ∧ xs.length ≤ 3 := by
    simp only [argk, List.mem_cons, List.not_mem_nil, or_false, Prod.mk.injEq] at hok
    omega
  refine ⟨.ref p, rfl, .str o, rfl, aA, o, .int (xs.length : Int), rfl, rfl, ⟨es, nA, _, D.kd.at_, D.kd.lit, hn3, ⟨_, rfl⟩⟩, .int rm, rfl, p, l, [41] ++ r, j, xs.length, xs, ls, rm, rfl, hrm, r3, e3, hl, rfl, hlx, hxl.1, hxl.2, hts, d3, Fo.c (.inr (.inl rfl)), fun H4 L us k4 r4 d4 e4 hL hu => ?_⟩
  obtain ⟨dx4, hp4⟩ := tk r4
  refine ⟨.ref p, rfl, p, dx4, _, rfl, hp4, nopl (by decide +kernel), p, l, [41], r, _, rfl, r4, e4, d4, hl, fun H5 k5 r5 d5 e5 => ?_⟩
  have k45 := k4.trans k5
  have hb5 : SqT K H5 b ws := (r3.o k45).seqt hb
  have hLp : L ≠ p := fun e => by
    rw [e, hp4] at hL
    cases hL
  have hL5 := k5 _ _ hLp hL
  refine ⟨.ref b, rfl, b, ws, rfl, .inl hb5, .ref L, rfl, L, us, rfl, .inr (.inl (.inl hL5)), ?_, fun a na => ?_⟩
  · have h1 := hw.len
    have h2 := hu.len
    exact Nat.le_trans (show (ws ++ (us ++ [])).length ≤ 10 by rw [List.length_append, List.length_append, List.length_nil]; omega) (small_le (by decide))
  have sa := same_upd (o := .tup (ws ++ (us ++ []))) na
  have ej' : j + (commas ls).length + ([41] : List Nat).length = i + (40 :: l0).length := ej
  rw [ej'] at r5 d5 e5
  refine qq _ _ ((k3.trans k45).trans (KeepR.of sa)) (r5.same sa) d5 e5 (.tup (.inl (.inl upd_same)) ?_)
  rw [List.append_nil] at sa ⊢
  exact DdAll.app ((hw.keep (r3.o k45)).keep (KeepO.of sa)) ((hu.keep (r4.o k5)).keep (KeepO.of sa))
/-- a text that begins with a word -/
inductive Wc (n : Nat) : PyData → Str → List Nat → Prop
  | key : Wc n (.tuple [.str "key"]) "key" []
  | var (z : Str) : Nm z → Wc n (.tuple [.str "var", .str z]) z []
  | cell (t v : Str) (x : PyData) (l : List Nat) : Nm t → Nm v → Tx n x l → Wc n (.tuple [.str "cell", .str t, x, .str v]) t (91 :: (l ++ (93 :: 46 :: wd v)))
  | call (o : Str) (d : PyData) (l : List Nat) : Cl n o d l → Wc n d o l
theorem low26 {u : List Nat} (h : u.all lowC = true) : ∀ c, c ∈ u → c ∈ wd L26 := fun c hc => by
  have := List.all_eq_true.mp h c hc
  unfold lowC at this
  rw [Bool.and_eq_true, decide_eq_true_eq, decide_eq_true_eq] at this
  exact low_L26 this
theorem argk_low {o : Str} {c : Nat} (h : (o, c) ∈ argk) : LowH (wd o) ∧ ∀ c, c ∈ wd o → c ∈ wd L26 := by
  simp only [argk, List.mem_cons, List.not_mem_nil, or_false, Prod.mk.injEq] at h
  rcases h with ⟨rfl, _⟩ | ⟨rfl, _⟩ | ⟨rfl, _⟩ | ⟨rfl, _⟩ | ⟨rfl, _⟩ | ⟨rfl, _⟩ <;> exact ⟨⟨_, _, rfl, by unfold Low; decide⟩, low26 (by decide +kernel)⟩
theorem Tx.split {n : Nat} {d : PyData} {l : List Nat} (h : Tx (n + 1) d l) : (∃ i : Int, -(10 ^ 18) ≤ i ∧ i ≤ 10 ^ 18 ∧ d = .tuple [.str "int", .int i] ∧ l = num i) ∨
    (∃ o x y l1 l2, o ∈ ops5 ∧ Tx n x l1 ∧ Tx n y l2 ∧ d = .tuple [.str o, x, y] ∧ l = 40 :: (l1 ++ (32 :: (wd o ++ (32 :: (l2 ++ [41])))))) ∨
    (∃ o l0, Wc n d o l0 ∧ l = wd o ++ l0 ∧ LowH (wd o) ∧ ∀ c, c ∈ wd o → c ∈ wd L26) := by
  cases h with
  | int _ i h1 h2 => exact .inl ⟨i, h1, h2, rfl, rfl⟩
  | key => exact .inr (.inr ⟨"key", [], .key, (List.append_nil _).symm, ⟨_, _, rfl, by unfold Low; decide⟩, low26 (by decide +kernel)⟩)
  | var _ z hz => exact .inr (.inr ⟨z, [], .var z hz, (List.append_nil _).symm, nm_lowH hz, nm_low hz⟩)
  | cell _ t v x l h1 h2 hx => exact .inr (.inr ⟨t, _, .cell t v x l h1 h2 hx, rfl, nm_lowH h1, nm_low h1⟩)
  | op _ o x y l m ho hx hy => exact .inr (.inl ⟨o, x, y, l, m, ho, hx, hy, rfl, rfl⟩)
  | call _ o xs ls ho hl hts =>
    have := argk_low (List.mem_append_left ([("count", 1), ("sum", 2), ("most", 3), ("first", 2)] : List (Str × Nat)) ho)
    exact .inr (.inr ⟨o, _, .call o _ _ (.call xs ls ho hl hts), rfl, this.1, this.2⟩)
  | agg _ o t xs ls h0 ho ht hl hts =>
    have := argk_low (List.mem_append_right ([("if", 3), ("at", 2)] : List (Str × Nat)) ho)
    exact .inr (.inr ⟨o, _, .call o _ _ (.agg t xs ls h0 ho ht hl hts), rfl, this.1, this.2⟩)
abbrev s_take_expression : Stmt := topS 27
theorem sc_take_expression : FnScope ["reader", "room", "word"] ["reader", "room"] (defScope s_take_expression) := ⟨rfl, rfl, rfl, by decide +kernel, rfl, by decide +kernel, by decide +kernel⟩
theorem ok_texp_step {f C : Addr} {fd : FuncData} {k n : Nat} (F : Fun K "take_expression" "take_expression" s_take_expression f fd) (R : RdM P w K mg base C k)
    (XO : DF P w K mg base "take_operation" ["reader", "room"] (sp_top K C n) k) (XC : DF P w K mg base "take_call" ["reader", "word", "room"] (sp_tcall K C n) k) (XL : DF P w K mg base "take_cell" ["reader", "table", "room"] (sp_tcell K C n) k)
    (XN : DF P w K mg base "is_name" ["thing"] (sp_isS K isN) k) : FnOk P w K mg base CX0 (k + 1) f fd ["reader", "room"] (sp_texp K C (n + 1)) := by
  have nd := sc_take_expression.nd
  refine F.ok sc_take_expression (fun vs H Q E h => ?_) (fun cdv A outer s H vs Q E hr h => ?_)
  · obtain ⟨p, l, l', r, i, d, rm, rfl, _⟩ := h
    rfl
  obtain ⟨p, l, l', r, i, d, rm, rfl, hrm, rd, hi, hl, ht, hd, hr', qq⟩ := h
  obtain ⟨fn, dn, Gn, mn, bn⟩ := R.next
  obtain ⟨fa, da, Ga, ma, ba⟩ := R.anext
  obtain ⟨fv, dv, Gv, mv, bv⟩ := R.tvalue
  obtain ⟨fw, dw, Gw, mw, bw⟩ := R.tword
  obtain ⟨fO, dO, GO, gO, KO, bO⟩ := XO
  obtain ⟨fC, dC, GC, gC, KC, bC⟩ := XC
  obtain ⟨fL, dL, GL, gL, KL, bL⟩ := XL
  obtain ⟨fN, dN, GN, gN, KN, bN⟩ := XN
  have T := R.T
  refine ⟨_, (pss_cons (ps_if (pt_cmpR op_eq (pv 1) pe_int (nomark _))
      (pss_one ps_never)
      pss_nil)
      (pss_cons (ps_if (pt_val (pe_meth (pv 0) T.cl mn Gn hr bn .nil pass0 (pa_cons pe_str pa_nil)))
      (pss_one (ps_ret (pe_call GO hr (by rfl) gO KO bO .nil pass0 (pa_cons (pv 0) (pa_cons (pv 1) pa_nil)))))
      pss_nil)
      (pss_cons (ps_if (pt_val (pe_meth (pv 0) T.cl ma Ga hr ba .nil pass0 (pa_cons pe_str pa_nil)))
      (pss_one (ps_ret (pe_tup (pa_cons pe_str (pa_cons (pe_meth0 (pv 0) T.cl mv Gv hr bv .nil pass0) pa_nil)))))
      pss_nil)
      (pss_cons (ps_set (i := 2) nd rfl (.inl rfl) (pe_meth0 (pv 0) T.cl mw Gw hr bw .nil pass0))
      (pss_cons (ps_if (pt_val (pe_meth (pv 0) T.cl mn Gn hr bn .nil pass0 (pa_cons pe_str pa_nil)))
      (pss_one (ps_ret (pe_call GC hr (by rfl) gC KC bC .nil pass0 (pa_cons (pv 0) (pa_cons (pv 2) (pa_cons (pv 1) pa_nil))))))
      pss_nil)
      (pss_cons (ps_if (pt_cmpR op_eq (pv 2) pe_str (nomark _))
      (pss_one (ps_ret (pe_tup (pa_cons pe_str pa_nil))))
      pss_nil)
      (pss_cons (ps_if (pt_not (pt_val (pe_call GN hr (by rfl) gN KN bN .nil pass0 (pa_cons (pv 2) pa_nil))))
      (pss_one ps_never)
      pss_nil)
      (pss_cons (ps_if (pt_val (pe_meth (pv 0) T.cl mn Gn hr bn .nil pass0 (pa_cons pe_str pa_nil)))
      (pss_one (ps_ret (pe_call GL hr (by rfl) gL KL bL .nil pass0 (pa_cons (pv 0) (pa_cons (pv 2) (pa_cons (pv 1) pa_nil))))))
      pss_nil)
      (pss_one (ps_ret (pe_tup (pa_cons pe_str (pa_cons (pv 2) pa_nil))))))))))))), ?_⟩
  have tk : ∀ {i : Nat} {H : Hp}, RdAt C H p l i → ∃ dx, H p = some (.ins C dx (fl (S l) i)) := fun h => h
  obtain ⟨dx, hp⟩ := tk rd
  have hrm' : (n : Int) + 1 ≤ rm := by
    have : ((n + 1 : Nat) : Int) = (n : Int) + 1 := rfl
    omega
  refine ⟨.int rm, rfl, rfl, _, rfl, ?_⟩
  rw [decide_eq_false (show ¬ V.int rm = V.int 0 from fun e => by injection e with e; omega)]
  refine iteF ⟨.ref p, rfl, p, dx, _, rfl, hp, nopl (by decide +kernel), p, l, [40], i, rfl, rd, hi, _, rfl, ?_⟩
  rw [hd]
  rcases ht.split with ⟨v, h1, h2, rfl, rfl⟩ | ⟨o, x, y, l1, l2, ho, hx, hy, rfl, rfl⟩ | ⟨o, l0, hW, rfl, hLow, h26⟩
  · rw [(num_no v r).1]
    refine iteF ⟨.ref p, rfl, p, dx, _, rfl, hp, nopl (by decide +kernel), p, l, SG, i, rfl, rd, hi, hl, _, rfl, ?_⟩
    rw [hd, (num_no v r).2]
    refine iteT ⟨.ref p, rfl, p, dx, _, rfl, hp, nopl (by decide +kernel), p, l, r, v, i, rfl, rd, hi, hl, h1, h2, hd, hr'.dg, fun H1 k1 r1 d1 e1 => ⟨small_le (show 2 ≤ 1000 by decide), fun a na => ?_⟩⟩
    have sa := same_upd (o := .tup [.str "int", .int v]) na
    exact qq _ _ (k1.trans (KeepR.of sa)) (r1.same sa) d1 e1 (.tup (.inl (.inl upd_same)) (.cons (.str _) (.cons (.int v) .nil)))
  · rw [show ([40] : List Nat).isPrefixOf (40 :: (l1 ++ (32 :: (wd o ++ (32 :: (l2 ++ [41]))))) ++ r) = true from rfl]
    exact iteT ⟨.ref p, rfl, .int rm, rfl, p, l, r, l1, l2, i, o, x, y, rm, rfl, hrm', rd, hi, hl, ho, hx, hy, hd, qq⟩
  rw [List.append_assoc] at hd
  rw [List.append_assoc, (hLow.app (r := l0 ++ r)).no.1]
  refine iteF ⟨.ref p, rfl, p, dx, _, rfl, hp, nopl (by decide +kernel), p, l, SG, i, rfl, rd, hi, hl, _, rfl, ?_⟩
  rw [hd, (hLow.app (r := l0 ++ r)).no.2]
  have hnx : nextIn L26 (l0 ++ r) = false := by
    cases hW with
    | key => exact hr'.l26
    | var z hz => exact hr'.l26
    | cell t v x l h1 h2 hx => exact (by decide +kernel : decide (91 ∈ wd L26) = false)
    | call o d l hc => cases hc <;> exact (by decide +kernel : decide (40 ∈ wd L26) = false)
  refine iteF ⟨.ref p, rfl, p, dx, _, rfl, hp, nopl (by decide +kernel), p, l, wd o, l0 ++ r, i, rfl, rd, hi, hl, hd, h26, hnx, fun H1 k1 r1 d1 e1 => ?_⟩
  rw [S_wd]
  obtain ⟨dx1, hp1⟩ := tk r1
  refine ⟨.ref p, rfl, p, dx1, _, rfl, hp1, nopl (by decide +kernel), p, l, [40], _, rfl, r1, e1, _, rfl, ?_⟩
  rw [d1]
  have ej : ∀ a b : List Nat, i + a.length + b.length = i + (a ++ b).length := fun a b => by
    rw [List.length_append]
    omega
  cases hW with
  | key =>
    rw [List.nil_append, hr'.no (.inl rfl)]
    refine iteF ⟨.str "key", rfl, rfl, _, rfl, ?_⟩
    rw [decide_eq_true rfl]
    refine iteT ⟨small_le (show 1 ≤ 1000 by decide), fun a na => ?_⟩
    have sa := same_upd (o := .tup [.str "key"]) na
    rw [List.append_nil] at qq
    exact qq _ _ (k1.trans (KeepR.of sa)) (r1.same sa) d1 e1 (.tup (.inl (.inl upd_same)) (.cons (.str _) .nil))
  | var z hz =>
    have hnk : o ≠ "key" := fun e => hz.2.2.2 (by rw [e]; decide)
    rw [List.nil_append, hr'.no (.inl rfl)]
    refine iteF ⟨.str o, rfl, rfl, _, rfl, ?_⟩
    rw [decide_eq_false (fun e => hnk (by injection e))]
    refine iteF ⟨.str o, rfl, .str o, .str o, F0, rfl, .str o, nm_sh hz, fun H2 s2 => ⟨_, rfl, ?_⟩⟩
    rw [isN_nm hz]
    have r2 := r1.same s2
    obtain ⟨dx2, hp2⟩ := tk r2
    refine iteF ⟨.ref p, rfl, p, dx2, _, rfl, hp2, nopl (by decide +kernel), p, l, [91], _, rfl, r2, e1, _, rfl, ?_⟩
    rw [d1, List.nil_append, hr'.no (.inr rfl)]
    refine iteF ⟨.str o, rfl, small_le (show 2 ≤ 1000 by decide), fun a na => ?_⟩
    have sa := same_upd (o := .tup [.str "var", .str o]) na
    rw [List.append_nil] at qq
    exact qq _ _ ((k1.trans (KeepR.of s2)).trans (KeepR.of sa)) (r2.same sa) d1 e1 (.tup (.inl (.inl upd_same)) (.cons (.str _) (.cons (.str o) .nil)))
  | cell _ v x l1 h1 h2 hx =>
    have hnk : o ≠ "key" := fun e => h1.2.2.2 (by rw [e]; decide)
    refine iteF ⟨.str o, rfl, rfl, _, rfl, ?_⟩
    rw [decide_eq_false (fun e => hnk (by injection e))]
    refine iteF ⟨.str o, rfl, .str o, .str o, F0, rfl, .str o, nm_sh h1, fun H2 s2 => ⟨_, rfl, ?_⟩⟩
    rw [isN_nm h1]
    have r2 := r1.same s2
    obtain ⟨dx2, hp2⟩ := tk r2
    refine iteF ⟨.ref p, rfl, p, dx2, _, rfl, hp2, nopl (by decide +kernel), p, l, [91], _, rfl, r2, e1, _, rfl, ?_⟩
    rw [d1]
    refine iteT ⟨.ref p, rfl, .str o, rfl, .int rm, rfl, p, l, r, l1, _, o, v, x, rm, rfl, hrm', r2, e1, hl, h2, hx, hr', d1, fun H3 u k3 r3 d3 e3 hu => ?_⟩
    rw [ej] at r3 d3 e3
    exact qq H3 u ((k1.trans (KeepR.of s2)).trans k3) r3 d3 e3 hu
  | call _ _ _ hc =>
    have h40 : ([40] : List Nat).isPrefixOf (l0 ++ r) = true := by cases hc <;> rfl
    rw [h40]
    refine iteT ⟨.ref p, rfl, .str o, rfl, .int rm, rfl, p, l, l0, r, _, d, o, rm, rfl, hrm', r1, e1, hl, hc, d1, fun H3 u k3 r3 d3 e3 hu => ?_⟩
    rw [ej] at r3 d3 e3
    exact qq H3 u (k1.trans k3) r3 d3 e3 hu
end
end K7

/-! an expression's text is read -/
namespace K7
open PySem PySem.Spec PyProof.Rows L2 GR AD RZ WX ZE TX RVT
open SX (S S_cat S_len S_inj)
theorem end_of {l : List Nat} {j : Nat} (d : l.drop j = []) (e : j ≤ l.length) : j = l.length := by
  have := congrArg List.length d
  rw [List.length_drop, List.length_nil] at this
  omega
section
variable {P : Program} {w : World} {K : PySem.W.Frag} {mg : Str → Option Value} {base : Heap}
theorem ok_texp_zero {f C : Addr} {fd : FuncData} {k : Nat} (F : Fun K "take_expression" "take_expression" s_take_expression f fd) : FnOk P w K mg base CX0 (k + 1) f fd ["reader", "room"] (sp_texp K C 0) := by
  refine F.ok sc_take_expression (fun vs H Q E h => ?_) (fun cdv A outer s H vs Q E hr h => ?_)
  · obtain ⟨p, l, l', r, i, d, rm, rfl, _⟩ := h
    rfl
  · obtain ⟨p, l, l', r, i, d, rm, rfl, hrm, rd, hi, hl, ht, _⟩ := h
    cases ht
/-- the reader of expressions, by their depth -/
theorem ok_texp {fE fO fL fC fB fA C aO aA aG : Addr} {dE dO dL dC dB dA : FuncData} {es : Array DictEntry} {nA : Nat} {k : Nat} {tk : Tok} (FE : Fun K "take_expression" "take_expression" s_take_expression fE dE) (gE : mg "take_expression" = some (.ref fE)) (KE : PySem.W.keepIn K (.ref fE) = true) (bE : Binds K dE ["reader", "room"] [])
    (FO : Fun K "take_operation" "take_operation" s_take_operation fO dO) (gO : mg "take_operation" = some (.ref fO)) (KO : PySem.W.keepIn K (.ref fO) = true) (bO : Binds K dO ["reader", "room"] [])
    (FL : Fun K "take_cell" "take_cell" s_take_cell fL dL) (gL : mg "take_cell" = some (.ref fL)) (KL : PySem.W.keepIn K (.ref fL) = true) (bL : Binds K dL ["reader", "table", "room"] [])
    (FC : Fun K "take_call" "take_call" s_take_call fC dC) (gC : mg "take_call" = some (.ref fC)) (KC : PySem.W.keepIn K (.ref fC) = true) (bC : Binds K dC ["reader", "word", "room"] [])
    (FB : Fun K "take_beginning" "take_beginning" s_take_beginning fB dB) (gB : mg "take_beginning" = some (.ref fB)) (KB : PySem.W.keepIn K (.ref fB) = true) (bB : Binds K dB ["reader", "word", "room"] [])
    (FA : Fun K "take_arguments" "take_arguments" s_take_arguments fA dA) (gA : mg "take_arguments" = some (.ref fA)) (KA : PySem.W.keepIn K (.ref fA) = true) (bA : Binds K dA ["reader", "many", "room"] [])
    (R : RdM P w K mg base C k) (XN : DF P w K mg base "is_name" ["thing"] (sp_isS K isN) k) (XR : DF P w K mg base "rows_of" ["table"] (sp_rows_of K) k)
    (mO : mg "OPERATIONS" = some (.ref aO)) (TO : KTx K aO ops5) (mA : mg "ARGUMENTS" = some (.ref aA)) (D : ArgT K w aA es nA) (mG : mg "AGGREGATES" = some (.ref aG)) (TG : KTx K aG aggW) (mD : mg "DEPTH_OF_ROWS" = some (.int 2 tk)) (mlen : mg "len" = none) :
    ∀ n, DF P w K mg base "take_expression" ["reader", "room"] (sp_texp K C n) (k + 1 + 3 * n)
  | 0 => ⟨fE, dE, ok_texp_zero FE, gE, KE, bE⟩
  | n + 1 => by
    have ih := ok_texp FE gE KE bE FO gO KO bO FL gL KL bL FC gC KC bC FB gB KB bB FA gA KA bA R XN XR mO TO mA D mG TG mD mlen n
    have XA : DF P w K mg base "take_arguments" ["reader", "many", "room"] (sp_targ K C n) (k + 1 + 3 * n + 1) := ⟨fA, dA, ok_take_arguments FA (R.up (by omega)) ih mlen, gA, KA, bA⟩
    have XB : DF P w K mg base "take_beginning" ["reader", "word", "room"] (sp_tbeg K C) (k + 1 + 3 * n + 1) := ⟨fB, dB, ok_take_beginning FB (R.up (by omega)) (XR.up (by omega)) mD, gB, KB, bB⟩
    have XC : DF P w K mg base "take_call" ["reader", "word", "room"] (sp_tcall K C n) (k + 1 + 3 * n + 1 + 1) := ⟨fC, dC, ok_take_call FC (R.up (by omega)) XB XA mA D mG TG, gC, KC, bC⟩
    have XO : DF P w K mg base "take_operation" ["reader", "room"] (sp_top K C n) (k + 1 + 3 * n + 1 + 1) := ⟨fO, dO, ok_take_operation FO (R.up (by omega)) (ih.up (by omega)) mO TO, gO, KO, bO⟩
    have XL : DF P w K mg base "take_cell" ["reader", "table", "room"] (sp_tcell K C n) (k + 1 + 3 * n + 1 + 1) := ⟨fL, dL, ok_take_cell FL (R.up (by omega)) (ih.up (by omega)), gL, KL, bL⟩
    exact ⟨fE, dE, ok_texp_step FE (R.up (show k ≤ k + 1 + 3 * n + 1 + 1 by omega)) XO XC XL (XN.up (show k ≤ k + 1 + 3 * n + 1 + 1 by omega)), gE, KE, bE⟩
abbrev s_read_expression : Stmt := topS 26
theorem sc_read_expression : FnScope ["thing", "reader", "expression"] ["thing"] (defScope s_read_expression) := ⟨rfl, rfl, rfl, by decide +kernel, rfl, by decide +kernel, by decide +kernel⟩
def sp_rex (K : PySem.W.Frag) (n : Nat) : Sp := fun vs H Q _ => ∃ (l : List Nat) (d : PyData), vs = [.str (S l)] ∧ l.length ≤ 8000000 ∧ Tx n d l ∧ ∀ H' v, Same H H' → Dd K F0 H' v d → Q v H'
theorem ok_read_expression {f C fI : Addr} {fd dI : FuncData} {k n : Nat} {tD : Tok} (F : Fun K "read_expression" "read_expression" s_read_expression f fd) (M : Mk K C fI) (gC : mg "Reader" = some (.ref C)) (GI : FnOk P w K mg base CX0 k fI dI ["self", "text"] (sp_rinit C)) (bI : Binds K dI ["self", "text"] [])
    (R : RdM P w K mg base C (k + 1)) (X : DF P w K mg base "take_expression" ["reader", "room"] (sp_texp K C n) (k + 1)) (hn : n ≤ 30) (mD : mg "DEEPEST" = some (.int 30 tD)) (misi : mg "isinstance" = none) (mstr : mg "str" = none) : FnOk P w K mg base CX0 (k + 1 + 1) f fd ["thing"] (sp_rex K n) := by
  have nd := sc_read_expression.nd
  refine F.ok sc_read_expression (fun vs H Q E h => ?_) (fun cdv A outer s H vs Q E hr h => ?_)
  · obtain ⟨l, d, rfl, _⟩ := h
    rfl
  obtain ⟨l, d, rfl, hl, hx, q⟩ := h
  obtain ⟨fx, dxx, Gx, gx, Kx, bx⟩ := X
  obtain ⟨fe, de, Ge, me, be⟩ := R.tend
  have T := R.T
  refine ⟨_, (pss_cons (ps_if (pt_not (pt_val (pe_callB call_isi (by rfl) misi boot_isinstance (pa_cons (pv 0) (pa_cons (pe_bltn (v := .ty "str") (by rfl) mstr boot_str rfl) pa_nil)))))
      (pss_one ps_never)
      pss_nil)
      (pss_cons (ps_set (i := 1) nd rfl (.inl rfl) (pe_make M GI hr (by rfl) gC bI .nil pass0 (pa_cons (pv 0) pa_nil)))
      (pss_cons (ps_set (i := 2) nd rfl (.inl rfl) (pe_call Gx hr (by rfl) gx Kx bx .nil pass0 (pa_cons (pv 1) (pa_cons (pe_glob (v := .int 30) rfl mD ⟨_, rfl⟩) pa_nil))))
      (pss_cons (ps_expr (pe_meth0 (pv 1) T.cl me Ge hr be .nil pass0))
      (pss_one (ps_ret (pv 2))))))), ?_⟩
  refine ⟨.str (S l), rfl, .str (S l), .ty "str", _, _, true, rfl, .ty "str", (Dd.ty (K := K) (H := H) (ok := F0) (.str (S l))), kit_s K _, _, rfl, iteF ?_⟩
  refine ⟨.str (S l), rfl, fun x dx nx ndx hne => ⟨x, dx, l, rfl, upd_same, fun H1 r1 k1 => ⟨rfl, ?_⟩⟩⟩
  have s1 : Same H H1 := fun b o e => k1 b o (ne_of_none e nx) (by
    rw [upd_ne (ne_of_none e nx), upd_ne (ne_of_none e ndx)]
    exact e)
  refine ⟨.ref x, rfl, x, l, l, [], 0, d, 30, rfl, by omega, r1, Nat.zero_le _, hl, hx, by rw [List.drop_zero, List.append_nil], .inl rfl, fun H2 v k2 r2 d2 e2 hv => ?_⟩
  have s2 : Same H H2 := fun b o e => k2 b o (ne_of_none e nx) (s1 b o e)
  rw [end_of d2 e2] at r2
  obtain ⟨dx2, hx2⟩ := id r2
  exact ⟨.ref x, rfl, x, dx2, _, rfl, hx2, nopl (by decide +kernel), x, l, rfl, r2, hl, ⟨v, rfl, q H2 v s2 hv⟩⟩
end
end K7

/-! the law's own texts -/
namespace K7
open PySem PySem.Spec PyProof.Rows L2 GR AD RZ WX ZE TX RVT
open SX (S S_cat S_len S_inj)
theorem walk_bodyT {K : PySem.W.Frag} {a : Addr} {xs : List V} {body : V → Hp → (Hp → Prop) → Prop} {H0 : Hp} {Qd : Hp → Prop} (Pv : Nat → Hp → Prop) (h0 : Pv 0 H0) (hl : ∀ i H, i ≤ xs.length → Pv i H → SqT K H a xs)
    (hs : ∀ i x H, xs[i]? = some x → Pv i H → body x H (Pv (i + 1))) (hd : ∀ H, Pv xs.length H → Qd H) :
    ∃ W : Nat → Nat → Hp → Prop, (∃ m, W 0 m H0) ∧ ∀ i m H, W i m H →
      ((Itt K a).stop i H ∧ Qd H) ∨ ((Itt K a).go i H ∧ ∃ Nx : Hp → Prop, (∀ H', Nx H' → ∃ m', m' < m ∧ W (i + 1) m' H') ∧ ∀ x H', (Itt K a).yld i H x H' → body x H' Nx) := by
  have w := walk_tup (K := K) (a := a) (xs := xs)
  refine ⟨fun i m H => m = xs.length - i ∧ i ≤ xs.length ∧ Pv i H, ⟨xs.length, rfl, Nat.zero_le _, h0⟩, ?_⟩
  rintro i m H ⟨rfl, hi, p⟩
  have q := hl i H hi p
  by_cases hlt : i < xs.length
  · refine .inr ⟨w.goes i H hlt q, Pv (i + 1), fun H' p' => ⟨xs.length - (i + 1), by omega, rfl, hlt, p'⟩, fun x H' y => ?_⟩
    obtain ⟨rfl, hx⟩ := w.yields i H x H' hlt q y
    exact hs i x _ hx p
  · obtain rfl : i = xs.length := by omega
    exact .inl ⟨w.stops H q, hd H p⟩
theorem sz_mem : ∀ {l : List PyData} {y : PyData}, y ∈ l → sz y ≤ szs l
  | x :: l, y, h => by
    rw [szs]
    rcases List.mem_cons.mp h with rfl | h
    · omega
    · have := sz_mem h
      omega
theorem dd_at {K : PySem.W.Frag} {ok : Addr → Prop} {H : Hp} : ∀ {vs : List V} {ds : List PyData}, DdAll K ok H vs ds → ∀ {i : Nat} {v : V}, vs[i]? = some v → ∃ d, ds[i]? = some d ∧ Dd K ok H v d
  | _, _, .nil, i, v, h => by simp at h
  | _, _, .cons h1 t, 0, v, h => by cases h; exact ⟨_, rfl, h1⟩
  | _, _, .cons h1 t, i + 1, v, h => by
    obtain ⟨d, e1, e2⟩ := dd_at t (by simpa using h)
    exact ⟨d, by simpa using e1, e2⟩
/-- the parts with their texts -/
def Pts (ps : List PyData) (ls : List (List Nat)) : Prop := ls.length = ps.length ∧ ∀ p, p ∈ ps.zip ls → Pc p.1 p.2
theorem Pts.nil : Pts [] [] := ⟨rfl, fun p hp => nomatch hp⟩
theorem Pts.cons {x : PyData} {l : List Nat} {ps : List PyData} {ls : List (List Nat)} (h : Pc x l) (t : Pts ps ls) : Pts (x :: ps) (l :: ls) := by
  refine ⟨by rw [List.length_cons, List.length_cons, t.1], fun p hp => ?_⟩
  rw [List.zip_cons_cons] at hp
  rcases List.mem_cons.mp hp with rfl | hp
  · exact h
  · exact t.2 p hp
theorem Pts.at {ps : List PyData} {ls : List (List Nat)} (h : Pts ps ls) {i : Nat} {x : PyData} (hx : ps[i]? = some x) : ∃ l, ls[i]? = some l ∧ Pc x l := by
  have hi : i < ps.length := (List.getElem?_eq_some_iff.mp hx).1
  have hl : i < ls.length := by rw [h.1]; exact hi
  refine ⟨ls[i], List.getElem?_eq_getElem hl, h.2 (x, ls[i]) ?_⟩
  refine List.mem_of_getElem? (i := i) ?_
  rw [List.getElem?_zip_eq_some]
  exact ⟨hx, List.getElem?_eq_getElem hl⟩
theorem len_cat (a b : Str) : (a ++ b).length = a.length + b.length := by
  rw [← S_wd a, ← S_wd b, S_cat, S_len, S_len, S_len, List.length_append]
abbrev SA (ls : List (List Nat)) : List V := ls.map fun l => V.str (S l)
section
variable {P : Program} {w : World} {K : PySem.W.Frag} {mg : Str → Option Value} {base : Heap}
abbrev s_law_written : Stmt := topS 42
abbrev N_lt : List Str := ["_law_thing", "_law_word", "_law_one"]
theorem sc_law_written : FnScope N_lt ["_law_thing"] (defScope s_law_written) := ⟨rfl, rfl, rfl, by decide +kernel, rfl, by decide +kernel, by decide +kernel⟩
def sp_ltext (K : PySem.W.Frag) (n : Nat) : Sp := fun vs H Q _ => ∃ (v : V) (d : PyData) (l : List Nat), vs = [v] ∧ Dd K F0 H v d ∧ Tx n d l ∧ sz d ≤ 100000 ∧ ∀ H', Same H H' → Q (.str (S l)) H'
theorem sz_kid {y : PyData} {ys : List PyData} (h : y ∈ ys) : sz y ≤ szs ys := sz_mem h
theorem slen (a : Str) : a.length = (wd a).length := by
  conv => lhs; rw [← S_wd a]
  rw [S_len]
theorem ok_ltext_zero {f : Addr} {fd : FuncData} {k : Nat} (F : Fun K "_law_written" "_law_written" s_law_written f fd) : FnOk P w K mg base CX0 (k + 1) f fd ["_law_thing"] (sp_ltext K 0) := by
  refine F.ok sc_law_written (fun vs H Q E h => ?_) (fun cdv A outer s H vs Q E hr h => ?_)
  · obtain ⟨v, d, l, rfl, _⟩ := h
    rfl
  · obtain ⟨v, d, l, rfl, hd, ht, _⟩ := h
    cases ht
theorem ok_ltext_step {f : Addr} {fd : FuncData} {k n : Nat} (F : Fun K "_law_written" "_law_written" s_law_written f fd) (X : DF P w K mg base "_law_written" ["_law_thing"] (sp_ltext K n) k) (mstr : mg "str" = none) : FnOk P w K mg base CX0 (k + 1) f fd ["_law_thing"] (sp_ltext K (n + 1)) := by
  have nd := sc_law_written.nd
  refine F.ok sc_law_written (fun vs H Q E h => ?_) (fun cdv A outer s H vs Q E hr h => ?_)
  · obtain ⟨v, d, l, rfl, _⟩ := h
    rfl
  obtain ⟨v, d, l, rfl, hd, ht, hz, q⟩ := h
  obtain ⟨fx, dx, G, g, Kf, b⟩ := X
  refine ⟨_, (pss_cons (ps_set (i := 1) nd rfl (.inl rfl) (pe_ix ix_tup (pv 0) pe_int (fun _ _ => rfl)))
      (pss_cons (ps_if (pt_cmpR op_eq (pv 1) pe_str (nomark _))
      (pss_one (ps_ret (pe_callTy call_str_int (by rfl) mstr boot_str (pa_cons (pe_ix ix_tup (pv 0) pe_int (fun _ _ => rfl)) pa_nil))))
      pss_nil)
      (pss_cons (ps_if (PW.pt (pw_or (pt_cmpR op_eq (pv 1) pe_str (nomark _)) (pw_or1 (pt_cmpR op_eq (pv 1) pe_str (nomark _)))))
      (pss_one (ps_ret (pe_ix ix_tup (pv 0) (pe_un un_neg pe_int) (fun _ _ => rfl))))
      pss_nil)
      (pss_cons (ps_if (pt_cmpR op_eq (pv 1) pe_str (nomark _))
      (pss_one (ps_ret (pe_op op_add_str (pe_op op_add_str (pe_op op_add_str (pe_op op_add_str (pe_ix ix_tup (pv 0) pe_int (fun _ _ => rfl)) pe_str) (pe_call G hr (by rfl) g Kf b .nil pass0 (pa_cons (pe_ix ix_tup (pv 0) pe_int (fun _ _ => rfl)) pa_nil))) pe_str) (pe_ix ix_tup (pv 0) pe_int (fun _ _ => rfl)))))
      pss_nil)
      (pss_cons (ps_if (pt_cmpR op_in_seq (pv 1) (pe_tup (pa_cons pe_str (pa_cons pe_str pa_nil))) (by rfl))
      (pss_one (ps_ret (pe_op op_add_str (pe_op op_add_str (pe_op op_add_str (pv 1) pe_str) (pe_join pe_str (pe_lc (own := [("_law_one", 2)]) (tt := tYes) (te := tCall (sp_ltext K n) [] E0 (tCons (tVar 2) tNil)) rfl nd (pi_tup (pe_slice L2.sl_tup (pv 0) (po_some pe_int) po_none)) (blkOk_by (N := N_lt) (sc := defScope s_law_written) (by decide +kernel)) (fun _ _ _ _ _ => (pg_name (i := 2) nd rfl (Or.inl rfl))) (fun _ _ _ _ _ => pts_nil) (fun _ _ _ _ _ => (pe_call G hr (by rfl) g Kf b .nil pass0 (pa_cons (pv 2) pa_nil)))))) pe_str)))
      pss_nil)
      (pss_cons (ps_if (pt_cmpR op_in_seq (pv 1) (pe_tup (pa_cons pe_str (pa_cons pe_str (pa_cons pe_str (pa_cons pe_str pa_nil))))) (by rfl))
      (pss_one (ps_ret (pe_op op_add_str (pe_op op_add_str (pe_op op_add_str (pv 1) pe_str) (pe_join pe_str (pe_op op_cat (pe_lst (pa_cons (pe_ix ix_tup (pv 0) pe_int (fun _ _ => rfl)) pa_nil)) (pe_lc (own := [("_law_one", 2)]) (tt := tYes) (te := tCall (sp_ltext K n) [] E0 (tCons (tVar 2) tNil)) rfl nd (pi_tup (pe_slice L2.sl_tup (pv 0) (po_some pe_int) po_none)) (blkOk_by (N := N_lt) (sc := defScope s_law_written) (by decide +kernel)) (fun _ _ _ _ _ => (pg_name (i := 2) nd rfl (Or.inl rfl))) (fun _ _ _ _ _ => pts_nil) (fun _ _ _ _ _ => (pe_call G hr (by rfl) g Kf b .nil pass0 (pa_cons (pv 2) pa_nil))))))) pe_str)))
      pss_nil)
      (pss_one (ps_ret (pe_op op_add_str (pe_op op_add_str (pe_op op_add_str (pe_op op_add_str (pe_op op_add_str (pe_op op_add_str pe_str (pe_call G hr (by rfl) g Kf b .nil pass0 (pa_cons (pe_ix ix_tup (pv 0) pe_int (fun _ _ => rfl)) pa_nil))) pe_str) (pv 1)) pe_str) (pe_call G hr (by rfl) g Kf b .nil pass0 (pa_cons (pe_ix ix_tup (pv 0) pe_int (fun _ _ => rfl)) pa_nil))) pe_str))))))))), ?_⟩
  have htl := ht.len
  have tst : ∀ {w x : Str} {A B : Prop}, w ≠ x → B → (if decide (V.str w = V.str x) = true then A else B) := fun hne hB => by
    rw [decide_eq_false (fun e => hne (by injection e))]
    exact iteF hB
  have tyes : ∀ {w : Str} {A B : Prop}, A → (if decide (V.str w = V.str w) = true then A else B) := fun hA => by
    rw [decide_eq_true rfl]
    exact iteT hA
  have cB : PySem.Str.ofString "[" = S [91] := by decide +kernel
  have cBr : PySem.Str.ofString "]." = S [93, 46] := by decide +kernel
  have cP : PySem.Str.ofString "(" = S [40] := by decide +kernel
  have cQ : PySem.Str.ofString ")" = S [41] := by decide +kernel
  have cS : PySem.Str.ofString " " = S [32] := by decide +kernel
  have cC : PySem.Str.ofString ", " = S [44, 32] := by decide +kernel
  have nB : (PySem.Str.ofString "[").length = 1 := by decide
  have nBr : (PySem.Str.ofString "].").length = 2 := by decide
  have nP : (PySem.Str.ofString "(").length = 1 := by decide
  have nQ : (PySem.Str.ofString ")").length = 1 := by decide
  have nS : (PySem.Str.ofString " ").length = 1 := by decide
  cases ht with
  | int _ i h1 h2 =>
    obtain ⟨a, xs, rfl, hS, hA⟩ := K7.Dd.tup_inv hd
    rcases hA with _ | ⟨g1, hA⟩; cases g1; rcases hA with _ | ⟨g2, hA⟩; cases g2; cases hA
    refine ⟨.ref a, rfl, a, _, 0, .str "int", rfl, rfl, hS, at0, .str "int", rfl, rfl, _, rfl, tyes ⟨.ref a, rfl, a, _, 1, .int i, rfl, rfl, hS, atI_nat (j := 1) rfl, i, rfl, ?_, ?_⟩⟩
    · by_cases e0 : i.natAbs = 0
      · rw [e0]; decide
      · exact (Nat.log2_lt e0).mpr (Nat.lt_of_le_of_lt (show i.natAbs ≤ 10 ^ 18 by omega) (Nat.lt_of_lt_of_le (show 10 ^ 18 < 2 ^ 60 by decide) (Nat.pow_le_pow_right (by decide) (by decide))))
    · rw [show PySem.Str.ofString (toString i) = S (num i) from str_num i]
      exact q H fun _ _ e => e
  | key _ =>
    obtain ⟨a, xs, rfl, hS, hA⟩ := K7.Dd.tup_inv hd
    rcases hA with _ | ⟨g1, hA⟩; cases g1; cases hA
    refine ⟨.ref a, rfl, a, _, 0, .str "key", rfl, rfl, hS, at0, .str "key", rfl, rfl, _, rfl, tst (by decide) ⟨.str "key", rfl, rfl, _, rfl, ?_⟩⟩
    rw [decide_eq_true rfl]
    refine iteT (iteT ⟨.ref a, rfl, 1, rfl, a, _, -1, .str "key", rfl, rfl, hS, rfl, ?_⟩)
    have := q H fun _ _ e => e
    rwa [S_wd] at this
  | var _ z hz' =>
    obtain ⟨a, xs, rfl, hS, hA⟩ := K7.Dd.tup_inv hd
    rcases hA with _ | ⟨g1, hA⟩; cases g1; rcases hA with _ | ⟨g2, hA⟩; cases g2; cases hA
    refine ⟨.ref a, rfl, a, _, 0, .str "var", rfl, rfl, hS, at0, .str "var", rfl, rfl, _, rfl, tst (by decide) ⟨.str "var", rfl, rfl, _, rfl, ?_⟩⟩
    rw [decide_eq_false (show ¬ V.str "var" = V.str "key" from fun e => absurd (by injection e) (by decide : ¬ ("var" : Str) = "key"))]
    refine iteF ⟨.str "var", rfl, rfl, _, rfl, ?_⟩
    rw [decide_eq_true rfl]
    refine iteT ⟨.ref a, rfl, 1, rfl, a, _, -1, .str z, rfl, rfl, hS, rfl, ?_⟩
    have := q H fun _ _ e => e
    rwa [S_wd] at this
  | cell _ t c x l1 h1 h2 hx =>
    obtain ⟨a, xs, rfl, hS, hA⟩ := K7.Dd.tup_inv hd
    rcases hA with _ | ⟨g1, hA⟩; cases g1; rcases hA with _ | ⟨g2, hA⟩; cases g2; rcases hA with _ | ⟨g3, hA⟩; rcases hA with _ | ⟨g4, hA⟩; cases g4; cases hA
    rename_i ux
    have b1 := nm_len h1
    have b2 := nm_len h2
    have b3 := hx.len
    have bz : sz x ≤ 100000 := by
      rw [sz, szs, szs, szs] at hz
      omega
    refine ⟨.ref a, rfl, a, _, 0, .str "cell", rfl, rfl, hS, at0, .str "cell", rfl, rfl, _, rfl, tst (by decide) ⟨.str "cell", rfl, rfl, _, rfl, tst (by decide) ⟨.str "cell", rfl, rfl, _, rfl, tst (by decide) ⟨.str "cell", rfl, rfl, _, rfl, tyes ?_⟩⟩⟩⟩
    refine ⟨.ref a, rfl, a, _, 1, .str t, rfl, rfl, hS, atI_nat (j := 1) rfl, t, Str.ofString "[", rfl, rfl, ?_, .ref a, rfl, a, _, 2, ux, rfl, rfl, hS, atI_nat (j := 2) rfl, ux, x, l1, rfl, g3, hx, bz, fun H1 s1 => ⟨_, S l1, rfl, rfl, ?_, _, Str.ofString "].", rfl, rfl, ?_, .ref a, rfl, a, _, 3, .str c, rfl, rfl, (KeepT.of s1).seqt hS, atI_nat (j := 3) rfl, _, c, rfl, rfl, ?_, ?_⟩⟩
    iterate 4 (· simp only [len_cat, S_len, nB, nBr, slen t, slen c, sizeLine_eq]; omega)
    have e : t ++ PySem.Str.ofString "[" ++ S l1 ++ PySem.Str.ofString "]." ++ c = S (wd t ++ (91 :: (l1 ++ (93 :: 46 :: wd c)))) := by
      conv => lhs; rw [← S_wd t, ← S_wd c]
      rw [cB, cBr, S_cat, S_cat, S_cat, S_cat]
      simp only [List.append_assoc, List.cons_append, List.nil_append]
    rw [e]
    exact q H1 s1
  | op _ o x y l1 l2 ho hx hy =>
    obtain ⟨a, xs, rfl, hS, hA⟩ := K7.Dd.tup_inv hd
    rcases hA with _ | ⟨g1, hA⟩; cases g1; rcases hA with _ | ⟨g2, hA⟩; rcases hA with _ | ⟨g3, hA⟩; cases hA
    rename_i ux uy
    have hno : o ≠ "int" ∧ o ≠ "var" ∧ o ≠ "key" ∧ o ≠ "cell" ∧ o ∉ (["if", "at"] : List Str) ∧ o ∉ (["count", "sum", "most", "first"] : List Str) ∧ o.length ≤ 1 := by
      simp only [ops5, List.mem_cons, List.not_mem_nil, or_false] at ho
      rcases ho with rfl | rfl | rfl | rfl | rfl <;> exact ⟨by decide, by decide, by decide, by decide, by decide, by decide, by decide⟩
    obtain ⟨n1, n2, n3, n4, n5, n6, n7⟩ := hno
    have b3 := hx.len
    have b4 := hy.len
    have bz : sz x ≤ 100000 ∧ sz y ≤ 100000 ∧ 30 * sz x + 30 * sz y ≤ 3000000 := by
      rw [sz, szs, szs, szs, szs] at hz
      omega
    refine ⟨.ref a, rfl, a, _, 0, .str o, rfl, rfl, hS, at0, .str o, rfl, rfl, _, rfl, tst n1 ⟨.str o, rfl, rfl, _, rfl, tst n3 ⟨.str o, rfl, rfl, _, rfl, tst n2 ⟨.str o, rfl, rfl, _, rfl, tst n4 ?_⟩⟩⟩⟩
    refine ⟨.str o, rfl, small_le (show 2 ≤ 1000 by decide), fun p1 np1 => ⟨p1, (["if", "at"] : List Str).map V.str, rfl, .inr (.inl (.inl upd_same)), rfl, flat_strsW _, _, rfl, ?_⟩⟩
    show if inV (.str o) ((["if", "at"] : List Str).map V.str) = true then _ else _
    rw [in_strs, decide_eq_false n5]
    refine iteF ⟨.str o, rfl, small_le (show 4 ≤ 1000 by decide), fun p2 np2 => ⟨p2, (["count", "sum", "most", "first"] : List Str).map V.str, rfl, .inr (.inl (.inl upd_same)), rfl, flat_strsW _, _, rfl, ?_⟩⟩
    show if inV (.str o) ((["count", "sum", "most", "first"] : List Str).map V.str) = true then _ else _
    rw [in_strs, decide_eq_false n6]
    have sA := same_upd (o := .tup [V.str "if", V.str "at"]) np1
    have sB := same_upd (o := .tup [V.str "count", V.str "sum", V.str "most", V.str "first"]) np2
    have s0 := sA.trans sB
    have hS0 := (KeepT.of s0).seqt hS
    have g20 := g2.keep (KeepO.of s0)
    have g30 := g3.keep (KeepO.of s0)
    refine iteF ⟨.ref a, rfl, a, _, 1, ux, rfl, rfl, hS0, atI_nat (j := 1) rfl, ux, x, l1, rfl, g20, hx, bz.1, fun H1 s1 => ⟨Str.ofString "(", S l1, rfl, rfl, ?_, _, Str.ofString " ", rfl, rfl, ?_, .str o, rfl, _, o, rfl, rfl, ?_, _, Str.ofString " ", rfl, rfl, ?_,
      .ref a, rfl, a, _, 2, uy, rfl, rfl, (KeepT.of s1).seqt hS0, atI_nat (j := 2) rfl, uy, y, l2, rfl, g30.keep (KeepO.of s1), hy, bz.2.1, fun H2 s2 => ⟨_, S l2, rfl, rfl, ?_, _, Str.ofString ")", rfl, rfl, ?_, ?_⟩⟩⟩
    iterate 6 (· simp only [len_cat, S_len, nP, nQ, nS, sizeLine_eq]; omega)
    have e : PySem.Str.ofString "(" ++ S l1 ++ PySem.Str.ofString " " ++ o ++ PySem.Str.ofString " " ++ S l2 ++ PySem.Str.ofString ")" = S (40 :: (l1 ++ (32 :: (wd o ++ (32 :: (l2 ++ [41])))))) := by
      conv => lhs; rw [← S_wd o]
      rw [cP, cQ, cS, S_cat, S_cat, S_cat, S_cat, S_cat, S_cat]
      simp only [List.append_assoc, List.cons_append, List.nil_append]
    rw [e]
    exact q H2 ((s0.trans s1).trans s2)
  | call _ o ys ls ho hl hys =>
    obtain ⟨a, xs, rfl, hS, hA⟩ := K7.Dd.tup_inv hd
    rcases hA with _ | ⟨g1, hA⟩; cases g1
    rename_i us
    have hno : o ≠ "int" ∧ o ≠ "var" ∧ o ≠ "key" ∧ o ≠ "cell" ∧ o ∈ (["if", "at"] : List Str) ∧ o.length ≤ 2 ∧ ys.length ≤ 3 := by
      simp only [callk, List.mem_cons, List.not_mem_nil, or_false, Prod.mk.injEq] at ho
      rcases ho with ⟨rfl, e⟩ | ⟨rfl, e⟩ <;> exact ⟨by decide, by decide, by decide, by decide, by decide, by decide, by omega⟩
    obtain ⟨n1, n2, n3, n4, n5, n7, n8⟩ := hno
    have lu := hA.len
    have bz : ∀ y, y ∈ ys → sz y ≤ 100000 := fun y hy => by
      have := sz_kid hy
      rw [sz, szs] at hz
      omega
    have hts : Pts ys ls := ⟨hl, fun p hp => .ex n _ _ (hys p hp)⟩
    have bl := commas_len ls
    have bl2 := zip_len hl fun p hp => (hys p hp).len
    have bl3 : (ls.map List.length).sum ≤ 3000000 := by
      rw [sz, szs] at hz
      omega
    refine ⟨.ref a, rfl, a, _, 0, .str o, rfl, rfl, hS, at0, .str o, rfl, rfl, _, rfl, tst n1 ⟨.str o, rfl, rfl, _, rfl, tst n3 ⟨.str o, rfl, rfl, _, rfl, tst n2 ⟨.str o, rfl, rfl, _, rfl, tst n4 ?_⟩⟩⟩⟩
    refine ⟨.str o, rfl, small_le (show 2 ≤ 1000 by decide), fun p1 np1 => ⟨p1, (["if", "at"] : List Str).map V.str, rfl, .inr (.inl (.inl upd_same)), rfl, flat_strsW _, _, rfl, ?_⟩⟩
    show if inV (.str o) ((["if", "at"] : List Str).map V.str) = true then _ else _
    rw [in_strs, decide_eq_true n5]
    have s0 := same_upd (o := .tup [V.str "if", V.str "at"]) np1
    have hS0 := (KeepT.of s0).seqt hS
    refine iteT ⟨.str o, rfl, o, Str.ofString "(", rfl, rfl, ?_, ⟨_, rfl⟩, .ref a, rfl, 1, rfl, a, _, rfl, hS0, no_1, fun c nc => ?_⟩
    · simp only [nP, sizeLine_eq]; omega
    rw [cut_1]
    have sc := same_upd (o := .tup us) nc
    refine ⟨c, rfl, ⟨us, .inl (.inl upd_same)⟩, fun D nD => ?_⟩
    have hA1 := hA.keep (KeepO.of (s0.trans sc))
    have hc1 : upd (upd H p1 (.tup [V.str "if", V.str "at"])) c (.tup us) c = some (.tup us) := upd_same
    have s01 := s0.trans sc
    revert hA1 hc1 s01 nD
    generalize upd (upd H p1 (.tup [V.str "if", V.str "at"])) c (.tup us) = H1
    intro nD hA1 hc1 s01
    refine walk_bodyT (xs := us) (fun i H' => H' D = some (.lst (SA (ls.take i))) ∧ ∀ b o, b ≠ D → H1 b = some o → H' b = some o) ?_ ?_ ?_ ?_
    · exact ⟨upd_same, fun b o nb e => by rw [upd_ne nb]; exact e⟩
    · rintro i H' _ ⟨_, kp⟩
      exact .inl (.inl (kp _ _ (ne_of_none hc1 nD) hc1))
    · rintro i y H' hy ⟨hD, kp⟩
      have s1' : Same H1 H' := fun b o e => kp b o (ne_of_none e nD) e
      obtain ⟨di, hdi, hyd⟩ := dd_at (hA1.keep (KeepO.of s1')) hy
      have hi : i < us.length := (List.getElem?_eq_some_iff.mp hy).1
      have hil : i < ls.length := by omega
      have hli : ls[i]? = some ls[i] := List.getElem?_eq_getElem hil
      have htx : Tx n di ls[i] := hys (di, ls[i]) (List.mem_of_getElem? (i := i) (by rw [List.getElem?_zip_eq_some]; exact ⟨hdi, hli⟩))
      have hle : (SA (ls.take i)).length < sizeLine := by
        rw [List.length_map, List.length_take, sizeLine_eq]
        omega
      refine ⟨rfl, yes_then ⟨y, rfl, y, di, ls[i], rfl, hyd, htx, bz _ (List.mem_of_getElem? hdi), fun H2 s2 => ⟨_, s2 _ _ hD, hle, ?_, fun b o nb e => ?_⟩⟩⟩
      · rw [upd_same, take_at hli]
        unfold SA
        rw [List.map_append, List.map_singleton]
      · rw [upd_ne nb]
        exact s2 _ _ (kp b o nb e)
    · rintro H' ⟨hD, kp⟩
      rw [lu, ← hl, List.take_length] at hD
      have e1 : SA ls = (ls.map S).map V.str := by
        unfold SA
        rw [List.map_map]
        rfl
      refine ⟨Str.ofString ", ", D, ls.map S, rfl, rfl, .inl (.inl (.inl (by rw [← e1]; exact hD))), ?_, ?_⟩
      · have : ((ls.map S).map (·.length)).sum = (ls.map List.length).sum := by
          rw [List.map_map]
          congr 1
        rw [this, List.length_map]
        show _ + ls.length * 2 ≤ _
        omega
      rw [cC, SX.join_S]
      refine ⟨_, S (commas ls), rfl, rfl, ?_, _, Str.ofString ")", rfl, rfl, ?_, ?_⟩
      · simp only [len_cat, S_len, nP, nQ, sizeLine_eq]; omega
      · simp only [len_cat, S_len, nP, nQ, sizeLine_eq]; omega
      have e : o ++ PySem.Str.ofString "(" ++ S (commas ls) ++ PySem.Str.ofString ")" = S (wd o ++ (40 :: (commas ls ++ [41]))) := by
        conv => lhs; rw [← S_wd o]
        rw [cP, cQ, S_cat, S_cat, S_cat]
        simp only [List.append_assoc, List.cons_append, List.nil_append]
      rw [e]
      exact q H' fun b o e => kp b o (ne_of_none (s01 _ _ e) nD) (s01 _ _ e)
  | agg _ o t ys ls h0 ho ht' hl hys =>
    obtain ⟨a, xs, rfl, hS, hA⟩ := K7.Dd.tup_inv hd
    rcases hA with _ | ⟨g1, hA⟩; cases g1; rcases hA with _ | ⟨g2, hA⟩; cases g2; rcases hA with _ | ⟨g3, hA⟩; rcases hA with _ | ⟨g4, hA⟩
    rename_i v3 v4 us
    have hno : o ≠ "int" ∧ o ≠ "var" ∧ o ≠ "key" ∧ o ≠ "cell" ∧ o ∉ (["if", "at"] : List Str) ∧ o ∈ (["count", "sum", "most", "first"] : List Str) ∧ o.length ≤ 5 ∧ 1 ≤ ys.length ∧ ys.length ≤ 3 := by
      simp only [aggn, List.mem_cons, List.not_mem_nil, or_false, Prod.mk.injEq] at ho
      rcases ho with ⟨rfl, e⟩ | ⟨rfl, e⟩ | ⟨rfl, e⟩ | ⟨rfl, e⟩ <;> exact ⟨by decide, by decide, by decide, by decide, by decide, by decide, by decide, by omega, by omega⟩
    obtain ⟨n1, n2, n3, n4, n5, n6, n7, n9, n8⟩ := hno
    have lu := hA.len
    have bt := nm_len ht'
    have bz : ∀ y, y ∈ ys → sz y ≤ 100000 := fun y hy => by
      have := sz_kid hy
      rw [sz, szs, szs, szs, szs] at hz
      omega
    have bl := commas_len ls
    have bl2 := zip_len hl fun p hp => (hys p hp).len
    have bl3 : (ls.map List.length).sum ≤ 3000000 := by
      rw [sz, szs, szs, szs, szs] at hz
      omega
    refine ⟨.ref a, rfl, a, _, 0, .str o, rfl, rfl, hS, at0, .str o, rfl, rfl, _, rfl, tst n1 ⟨.str o, rfl, rfl, _, rfl, tst n3 ⟨.str o, rfl, rfl, _, rfl, tst n2 ⟨.str o, rfl, rfl, _, rfl, tst n4 ?_⟩⟩⟩⟩
    refine ⟨.str o, rfl, small_le (show 2 ≤ 1000 by decide), fun p1 np1 => ⟨p1, (["if", "at"] : List Str).map V.str, rfl, .inr (.inl (.inl upd_same)), rfl, flat_strsW _, _, rfl, ?_⟩⟩
    show if inV (.str o) ((["if", "at"] : List Str).map V.str) = true then _ else _
    rw [in_strs, decide_eq_false n5]
    refine iteF ⟨.str o, rfl, small_le (show 4 ≤ 1000 by decide), fun p2 np2 => ⟨p2, (["count", "sum", "most", "first"] : List Str).map V.str, rfl, .inr (.inl (.inl upd_same)), rfl, flat_strsW _, _, rfl, ?_⟩⟩
    show if inV (.str o) ((["count", "sum", "most", "first"] : List Str).map V.str) = true then _ else _
    rw [in_strs, decide_eq_true n6]
    have sA := same_upd (o := .tup [V.str "if", V.str "at"]) np1
    have sB := same_upd (o := .tup [V.str "count", V.str "sum", V.str "most", V.str "first"]) np2
    have s0 := sA.trans sB
    revert s0
    generalize upd (upd H p1 (.tup [V.str "if", V.str "at"])) p2 (.tup [V.str "count", V.str "sum", V.str "most", V.str "first"]) = H0
    intro s0
    have hS0 := (KeepT.of s0).seqt hS
    refine iteT ⟨.str o, rfl, o, Str.ofString "(", rfl, rfl, ?_, ⟨_, rfl⟩, .ref a, rfl, a, _, 1, .str t, rfl, rfl, hS0, atI_nat (j := 1) rfl, small_le (show 1 ≤ 1000 by decide), fun L nL => ?_⟩
    · simp only [nP, sizeLine_eq]; omega
    have sL := same_upd (o := .lst [.str t]) nL
    refine ⟨.ref a, rfl, 4, rfl, a, _, rfl, (KeepT.of sL).seqt hS0, no_4, fun c nc => ?_⟩
    rw [cut_4]
    have sc := same_upd (o := .tup us) nc
    refine ⟨c, rfl, ⟨us, .inl (.inl upd_same)⟩, fun D nD => ?_⟩
    have hA1 := hA.keep (KeepO.of ((s0.trans sL).trans sc))
    have hc1 : upd (upd H0 L (.lst [.str t])) c (.tup us) c = some (.tup us) := upd_same
    have hL1 : upd (upd H0 L (.lst [.str t])) c (.tup us) L = some (.lst [.str t]) := sc _ _ upd_same
    have s01 := (s0.trans sL).trans sc
    revert hA1 hc1 hL1 s01 nD
    generalize upd (upd H0 L (.lst [.str t])) c (.tup us) = H1
    intro nD hA1 hc1 hL1 s01
    refine walk_bodyT (xs := us) (fun i H' => H' D = some (.lst (SA (ls.take i))) ∧ ∀ b o, b ≠ D → H1 b = some o → H' b = some o) ?_ ?_ ?_ ?_
    · exact ⟨upd_same, fun b o nb e => by rw [upd_ne nb]; exact e⟩
    · rintro i H' _ ⟨_, kp⟩
      exact .inl (.inl (kp _ _ (ne_of_none hc1 nD) hc1))
    · rintro i y H' hy ⟨hD, kp⟩
      have s1' : Same H1 H' := fun b o e => kp b o (ne_of_none e nD) e
      obtain ⟨di, hdi, hyd⟩ := dd_at (hA1.keep (KeepO.of s1')) hy
      have hi : i < us.length := (List.getElem?_eq_some_iff.mp hy).1
      have hil : i < ls.length := by omega
      have hli : ls[i]? = some ls[i] := List.getElem?_eq_getElem hil
      have htx : Tx n di ls[i] := hys (di, ls[i]) (List.mem_of_getElem? (i := i) (by rw [List.getElem?_zip_eq_some]; exact ⟨hdi, hli⟩))
      have hle : (SA (ls.take i)).length < sizeLine := by
        rw [List.length_map, List.length_take, sizeLine_eq]
        omega
      refine ⟨rfl, yes_then ⟨y, rfl, y, di, ls[i], rfl, hyd, htx, bz _ (List.mem_of_getElem? hdi), fun H2 s2 => ⟨_, s2 _ _ hD, hle, ?_, fun b o nb e => ?_⟩⟩⟩
      · rw [upd_same, take_at hli]
        unfold SA
        rw [List.map_append, List.map_singleton]
      · rw [upd_ne nb]
        exact s2 _ _ (kp b o nb e)
    · rintro H' ⟨hD, kp⟩
      rw [lu, ← hl, List.take_length] at hD
      have hL' := kp _ _ (ne_of_none hL1 nD) hL1
      refine ⟨L, D, _, _, rfl, rfl, hL', hD, ?_, fun M nM => ?_⟩
      · rw [List.length_map]
        exact small_le (show 1 + ls.length ≤ 1000 by omega)
      have sM := same_upd (o := .lst ([.str t] ++ SA ls)) nM
      have e1 : [V.str t] ++ SA ls = ((wd t :: ls).map S).map V.str := by
        unfold SA
        rw [List.map_map, List.map_cons]
        show V.str t :: _ = V.str (S (wd t)) :: _
        rw [S_wd]
        rfl
      refine ⟨Str.ofString ", ", M, (wd t :: ls).map S, rfl, rfl, .inl (.inl (.inl (by rw [← e1]; exact upd_same))), ?_, ?_⟩
      · have : (((wd t :: ls).map S).map (·.length)).sum = ((wd t :: ls).map List.length).sum := by
          rw [List.map_map]
          congr 1
        rw [this, List.length_map, List.map_cons, List.sum_cons, List.length_cons]
        show _ + (ls.length + 1) * 2 ≤ _
        omega
      rw [cC, SX.join_S]
      have e2 : TL.joinL [44, 32] (wd t :: ls) = wd t ++ (44 :: 32 :: commas ls) := by
        cases ls with
        | nil => rw [List.length_nil] at hl; omega
        | cons m ms' => rfl
      rw [e2]
      refine ⟨_, S (wd t ++ (44 :: 32 :: commas ls)), rfl, rfl, ?_, _, Str.ofString ")", rfl, rfl, ?_, ?_⟩
      · simp only [len_cat, S_len, nP, nQ, sizeLine_eq, List.length_append, List.length_cons]; omega
      · simp only [len_cat, S_len, nP, nQ, sizeLine_eq, List.length_append, List.length_cons]; omega
      have e : o ++ PySem.Str.ofString "(" ++ S (wd t ++ (44 :: 32 :: commas ls)) ++ PySem.Str.ofString ")" = S (wd o ++ (40 :: (wd t ++ (44 :: 32 :: (commas ls ++ [41]))))) := by
        conv => lhs; rw [← S_wd o]
        rw [cP, cQ, S_cat, S_cat, S_cat]
        simp only [List.append_assoc, List.cons_append, List.nil_append]
      rw [e]
      exact q _ fun b o e => sM _ _ (kp b o (ne_of_none (s01 _ _ e) nD) (s01 _ _ e))
theorem ok_ltext {f : Addr} {fd : FuncData} {k : Nat} (F : Fun K "_law_written" "_law_written" s_law_written f fd) (g : mg "_law_written" = some (.ref f)) (Kf : PySem.W.keepIn K (.ref f) = true) (b : Binds K fd ["_law_thing"] []) (mstr : mg "str" = none) : ∀ n, DF P w K mg base "_law_written" ["_law_thing"] (sp_ltext K n) (k + 1 + n)
  | 0 => ⟨f, fd, ok_ltext_zero F, g, Kf, b⟩
  | n + 1 => ⟨f, fd, ok_ltext_step F (ok_ltext F g Kf b mstr n) mstr, g, Kf, b⟩
end
end K7

/-! expressions that give known data; the law's written pairs -/
namespace K7
open PySem PySem.Spec PyProof.Rows L2 GR AD RZ WX ZE TX RVT
open SX (S S_cat S_len S_inj)
def Gv (K : PySem.W.Frag) (ok : Addr → Prop) (H0 : Hp) (σ : L2.St) (t : TE) (x : PyData) : Prop := ∀ (H : Hp) (Q : VK), Same H0 H → (∀ H' v, Same H H' → Dd K ok H' v x → Q v H') → t σ H Q
def Ga (K : PySem.W.Frag) (ok : Addr → Prop) (H0 : Hp) (σ : L2.St) (t : TA) (xs : List PyData) : Prop := ∀ (H : Hp) (R : List V → Hp → Prop), Same H0 H → (∀ H' vs, Same H H' → DdAll K ok H' vs xs → R vs H') → t σ H R
section
variable {K : PySem.W.Frag} {ok : Addr → Prop} {H0 : Hp} {σ : L2.St}
theorem gv_c {v : V} {x : PyData} (h : ∀ H, Dd K ok H v x) : Gv K ok H0 σ (tC v) x := fun H Q _ q => q H v (fun _ _ e => e) (h H)
theorem gv_i (i : Int) : Gv K ok H0 σ (tC (.int i)) (.int i) := gv_c fun _ => .int i
theorem gv_s (z : Str) : Gv K ok H0 σ (tC (.str z)) (.str z) := gv_c fun _ => .str z
theorem gv_var {i : Nat} {v : V} {x : PyData} (h : σ[i]? = some (some v)) (hd : Dd K ok H0 v x) : Gv K ok H0 σ (tVar i) x := fun H Q s q => ⟨v, h, q H v (fun _ _ e => e) (hd.keep (KeepO.of s))⟩
theorem ga_nil : Ga K ok H0 σ tNil [] := fun H R _ q => q H [] (fun _ _ e => e) .nil
theorem ga_cons {t : TE} {ta : TA} {x : PyData} {xs : List PyData} (h : Gv K ok H0 σ t x) (h2 : Ga K ok H0 σ ta xs) : Ga K ok H0 σ (tCons t ta) (x :: xs) := fun H R s q =>
  h H _ s fun H1 v s1 hv => h2 H1 _ (s.trans s1) fun H2 vs s2 hvs => q H2 (v :: vs) (s1.trans s2) (.cons (hv.keep (KeepO.of s2)) hvs)
theorem gv_tup {t : TA} {xs : List PyData} (h : Ga K ok H0 σ t xs) (hl : xs.length ≤ 1000 := by exact Nat.le_of_ble_eq_true rfl) : Gv K ok H0 σ (tTup t) (.tuple xs) := fun H Q s q =>
  h H _ s fun H1 vs s1 hvs => ⟨small_le (by rw [hvs.len]; exact hl), fun p np => by
    have sp := same_upd (o := .tup vs) np
    exact q _ _ (s1.trans sp) (.tup (.inl (.inl upd_same)) (hvs.keep (KeepO.of sp)))⟩
theorem gv_neg {t : TE} {i : Int} (h : Gv K ok H0 σ t (.int i)) : Gv K ok H0 σ (tUn (rU fun i => .int (-i)) t) (.int (-i)) := fun H Q s q =>
  h H _ s fun H1 v s1 hv => by
    cases hv
    exact ⟨i, rfl, q H1 _ s1 (.int _)⟩
theorem gl_lst {t : TA} {xs : List PyData} (h : Ga K ok H0 σ t xs) (hl : xs.length ≤ 1000) {H : Hp} {Q : VK} (s : Same H0 H) (q : ∀ H' L vs, Same H H' → H L = none → H' L = some (.lst vs) → DdAll K ok H' vs xs → Q (.ref L) H') : tLst t σ H Q :=
  h H _ s fun H1 vs s1 hvs => ⟨small_le (by rw [hvs.len]; exact hl), fun p np => by
    have sp := same_upd (o := .lst vs) np
    exact q _ p vs (s1.trans sp) (s1.free np) upd_same (hvs.keep (KeepO.of sp))⟩
theorem gl_more {i : Nat} {L : Addr} {us : List V} {ys : List PyData} {t : TA} {xs : List PyData} (hi : σ[i]? = some (some (.ref L))) (hL : H0 L = some (.lst us)) (hu : DdAll K ok H0 us ys) (h : Ga K ok H0 σ t xs) (hl : ys.length + xs.length ≤ 1000) {H : Hp} {Q : VK} (s : Same H0 H)
    (q : ∀ H' L' vs, Same H H' → H L' = none → H' L' = some (.lst vs) → DdAll K ok H' vs (ys ++ xs) → Q (.ref L') H') : tOp rCat (tVar i) (tLst t) σ H Q := by
  refine ⟨.ref L, hi, gl_lst h (by omega) s fun H1 L1 vs s1 n1 hL1 hvs => ?_⟩
  have l1 := hu.len
  have l2 := hvs.len
  refine ⟨L, L1, us, vs, rfl, rfl, s1 _ _ (s _ _ hL), hL1, small_le (by omega), fun p np => ?_⟩
  have sp := same_upd (o := .lst (us ++ vs)) np
  exact q _ p _ (s1.trans sp) (s1.free np) upd_same (((hu.keep (KeepO.of (s.trans s1))).app hvs).keep (KeepO.of sp))
end
abbrev iD (i : Int) : PyData := .tuple [.str "int", .int i]
abbrev oneD : PyData := iD (-7)
abbrev keyD : PyData := .tuple [.str "key"]
abbrev xD : PyData := .tuple [.str "var", .str "x"]
abbrev opD (o : Str) (x y : PyData) : PyData := .tuple [.str o, x, y]
abbrev cellD (t : Str) (x : PyData) (c : Str) : PyData := .tuple [.str "cell", .str t, x, .str c]
abbrev testD : PyData := cellD "t" keyD "in"
abbrev aggD (o : Str) (xs : List PyData) : PyData := .tuple (.str o :: .str "t" :: .tuple [] :: testD :: xs)
abbrev prD (d : PyData) (z : Str) : PyData := .tuple [d, .str z]
abbrev hand1 : List PyData := [prD oneD "-7", prD (iD 0) "0", prD keyD "key", prD xD "x", prD (cellD "t" keyD "a") "t[key].a"]
abbrev hand2 : List PyData := [prD (opD "+" xD oneD) "(x + -7)", prD (opD "-" xD oneD) "(x - -7)", prD (opD "*" xD keyD) "(x * key)"]
abbrev hand3 : List PyData := [prD (opD "<" xD xD) "(x < x)", prD (opD "=" oneD xD) "(-7 = x)", prD (.tuple [.str "if", xD, oneD, keyD]) "if(x, -7, key)"]
abbrev hand4 : List PyData := [prD (opD "at" xD keyD) "at(x, key)", prD (aggD "count" [keyD]) "count(t, key)"]
abbrev hand5 : List PyData := [prD (aggD "first" [xD, oneD]) "first(t, x, -7)", prD (.tuple [.str "var", .str "keys"]) "keys"]
def handD : List PyData := hand1 ++ hand2 ++ hand3 ++ hand4 ++ [prD (aggD "sum" [xD, keyD]) "sum(t, x, key)"] ++ [prD (aggD "most" [xD, keyD, oneD]) "most(t, x, key, -7)"] ++ [prD (cellD "sums" (.tuple [.str "var", .str "iff"]) "atone") "sums[iff].atone"] ++ [prD (.tuple [.str "var", .str "counts"]) "counts"] ++ hand5
section
variable {P : Program} {w : World} {K : PySem.W.Frag} {mg : Str → Option Value} {base : Heap}
abbrev s_law_by_hand : Stmt := topS 44
theorem sc_law_by_hand : FnScope ["_law_one", "_law_key", "_law_x", "_law_test", "_law_found"] [] (defScope s_law_by_hand) := ⟨rfl, rfl, rfl, by decide +kernel, rfl, by decide +kernel, by decide +kernel⟩
/-- so far -/
def OBH (K : PySem.W.Frag) (ys : List PyData) (H0 : Hp) (σ : L2.St) (H : Hp) : Prop := ∃ (v0 v1 v2 v3 : V) (L : Addr) (us : List V), σ = [some v0, some v1, some v2, some v3, some (.ref L)] ∧ Dd K F0 H v0 oneD ∧ Dd K F0 H v1 keyD ∧ Dd K F0 H v2 xD ∧ Dd K F0 H v3 testD ∧ H L = some (.lst us) ∧ DdAll K F0 H us ys ∧ H0 L = none ∧ Same H0 H
def sp_hand (K : PySem.W.Frag) : Sp := fun vs H Q _ => vs = [] ∧ ∀ H' L us, Same H H' → H' L = some (.lst us) → DdAll K F0 H' us handD → Q (.ref L) H'
theorem ok_by_hand {f : Addr} {fd : FuncData} {k : Nat} (F : Fun K "_law_by_hand" "_law_by_hand" s_law_by_hand f fd) : FnOk P w K mg base CX0 (k + 1) f fd [] (sp_hand K) := by
  have nd := sc_law_by_hand.nd
  refine F.ok sc_law_by_hand (fun vs H Q E h => ?_) (fun cdv A outer s H vs Q E hr h => ?_)
  · obtain ⟨rfl, _⟩ := h
    rfl
  obtain ⟨rfl, q⟩ := h
  refine ⟨_, (Evl.pss_cut (ps_asg (pe_tup (pa_cons (pe_tup (pa_cons pe_str (pa_cons (pe_un un_neg pe_int) pa_nil))) (pa_cons (pe_tup (pa_cons pe_str pa_nil)) (pa_cons (pe_tup (pa_cons pe_str (pa_cons pe_str pa_nil))) pa_nil)))) (pg_tup rfl (pgs_cons (pg_name (i := 0) nd rfl (Or.inl rfl)) (pgs_cons (pg_name (i := 1) nd rfl (Or.inl rfl)) (pgs_cons (pg_name (i := 2) nd rfl (Or.inl rfl)) pgs_nil)))))
      (Evl.pss_cut (ps_set (i := 3) nd rfl (.inl rfl) (pe_tup (pa_cons pe_str (pa_cons pe_str (pa_cons (pv 1) (pa_cons pe_str pa_nil))))))
      (Evl.pss_cut (ps_set (i := 4) nd rfl (.inl rfl) (pe_lst (pa_cons (pe_tup (pa_cons (pv 0) (pa_cons pe_str pa_nil))) (pa_cons (pe_tup (pa_cons (pe_tup (pa_cons pe_str (pa_cons pe_int pa_nil))) (pa_cons pe_str pa_nil))) (pa_cons (pe_tup (pa_cons (pv 1) (pa_cons pe_str pa_nil))) (pa_cons (pe_tup (pa_cons (pv 2) (pa_cons pe_str pa_nil))) (pa_cons (pe_tup (pa_cons (pe_tup (pa_cons pe_str (pa_cons pe_str (pa_cons (pv 1) (pa_cons pe_str pa_nil))))) (pa_cons pe_str pa_nil))) pa_nil)))))))
      (Evl.pss_cut (ps_set (i := 4) nd rfl (.inl rfl) (pe_op op_cat (pv 4) (pe_lst (pa_cons (pe_tup (pa_cons (pe_tup (pa_cons pe_str (pa_cons (pv 2) (pa_cons (pv 0) pa_nil)))) (pa_cons pe_str pa_nil))) (pa_cons (pe_tup (pa_cons (pe_tup (pa_cons pe_str (pa_cons (pv 2) (pa_cons (pv 0) pa_nil)))) (pa_cons pe_str pa_nil))) (pa_cons (pe_tup (pa_cons (pe_tup (pa_cons pe_str (pa_cons (pv 2) (pa_cons (pv 1) pa_nil)))) (pa_cons pe_str pa_nil))) pa_nil))))))
      (Evl.pss_cut (ps_set (i := 4) nd rfl (.inl rfl) (pe_op op_cat (pv 4) (pe_lst (pa_cons (pe_tup (pa_cons (pe_tup (pa_cons pe_str (pa_cons (pv 2) (pa_cons (pv 2) pa_nil)))) (pa_cons pe_str pa_nil))) (pa_cons (pe_tup (pa_cons (pe_tup (pa_cons pe_str (pa_cons (pv 0) (pa_cons (pv 2) pa_nil)))) (pa_cons pe_str pa_nil))) (pa_cons (pe_tup (pa_cons (pe_tup (pa_cons pe_str (pa_cons (pv 2) (pa_cons (pv 0) (pa_cons (pv 1) pa_nil))))) (pa_cons pe_str pa_nil))) pa_nil))))))
      (Evl.pss_cut (ps_set (i := 4) nd rfl (.inl rfl) (pe_op op_cat (pv 4) (pe_lst (pa_cons (pe_tup (pa_cons (pe_tup (pa_cons pe_str (pa_cons (pv 2) (pa_cons (pv 1) pa_nil)))) (pa_cons pe_str pa_nil))) (pa_cons (pe_tup (pa_cons (pe_tup (pa_cons pe_str (pa_cons pe_str (pa_cons (pe_tup pa_nil) (pa_cons (pv 3) (pa_cons (pv 1) pa_nil)))))) (pa_cons pe_str pa_nil))) pa_nil)))))
      (Evl.pss_cut (ps_expr (pe_bm PySem.F.plainAttrs_list PySem.F.slot_list_append PySem.F.type_list_append mt_append (pv 4) (pa_cons (pe_tup (pa_cons (pe_tup (pa_cons pe_str (pa_cons pe_str (pa_cons (pe_tup pa_nil) (pa_cons (pv 3) (pa_cons (pv 2) (pa_cons (pv 1) pa_nil))))))) (pa_cons pe_str pa_nil))) pa_nil)))
      (Evl.pss_cut (ps_expr (pe_bm PySem.F.plainAttrs_list PySem.F.slot_list_append PySem.F.type_list_append mt_append (pv 4) (pa_cons (pe_tup (pa_cons (pe_tup (pa_cons pe_str (pa_cons pe_str (pa_cons (pe_tup pa_nil) (pa_cons (pv 3) (pa_cons (pv 2) (pa_cons (pv 1) (pa_cons (pv 0) pa_nil)))))))) (pa_cons pe_str pa_nil))) pa_nil)))
      (Evl.pss_cut (ps_expr (pe_bm PySem.F.plainAttrs_list PySem.F.slot_list_append PySem.F.type_list_append mt_append (pv 4) (pa_cons (pe_tup (pa_cons (pe_tup (pa_cons pe_str (pa_cons pe_str (pa_cons (pe_tup (pa_cons pe_str (pa_cons pe_str pa_nil))) (pa_cons pe_str pa_nil))))) (pa_cons pe_str pa_nil))) pa_nil)))
      (Evl.pss_cut (ps_expr (pe_bm PySem.F.plainAttrs_list PySem.F.slot_list_append PySem.F.type_list_append mt_append (pv 4) (pa_cons (pe_tup (pa_cons (pe_tup (pa_cons pe_str (pa_cons pe_str pa_nil))) (pa_cons pe_str pa_nil))) pa_nil)))
      (pss_one (ps_ret (pe_op op_cat (pv 4) (pe_lst (pa_cons (pe_tup (pa_cons (pe_tup (pa_cons pe_str (pa_cons pe_str (pa_cons (pe_tup pa_nil) (pa_cons (pv 3) (pa_cons (pv 2) (pa_cons (pv 0) pa_nil))))))) (pa_cons pe_str pa_nil))) (pa_cons (pe_tup (pa_cons (pe_tup (pa_cons pe_str (pa_cons pe_str pa_nil))) (pa_cons pe_str pa_nil))) pa_nil)))))))))))))))), ?_⟩
  -- one, key, x
  refine ⟨fun σ' H' => ∃ v0 v1 v2, σ' = [some v0, some v1, some v2, none, none] ∧ Dd K F0 H' v0 oneD ∧ Dd K F0 H' v1 keyD ∧ Dd K F0 H' v2 xD ∧ Same H H', ?_, ?_⟩
  · refine (gv_tup (K := K) (ok := F0) (H0 := H) (ga_cons (gv_tup (ga_cons (gv_s "int") (ga_cons (gv_neg (gv_i 7)) ga_nil))) (ga_cons (gv_tup (ga_cons (gv_s "key") ga_nil)) (ga_cons (gv_tup (ga_cons (gv_s "var") (ga_cons (gv_s "x") ga_nil))) ga_nil)))) H _ (fun _ _ e => e) fun H1 v s1 hv => ?_
    obtain ⟨a, xs, rfl, hS, hA⟩ := K7.Dd.tup_inv hv
    rcases hA with _ | ⟨g0, hA⟩; rcases hA with _ | ⟨g1, hA⟩; rcases hA with _ | ⟨g2, hA⟩; cases hA
    exact ⟨a, _, rfl, hS, rfl, _, _, rfl, _, _, rfl, _, _, rfl, rfl, _, _, _, rfl, g0, g1, g2, s1⟩
  rintro σ1 H1 ⟨v0, v1, v2, rfl, d0, d1, d2, s1⟩
  refine ⟨fun σ' H' => ∃ v0 v1 v2 v3, σ' = [some v0, some v1, some v2, some v3, none] ∧ Dd K F0 H' v0 oneD ∧ Dd K F0 H' v1 keyD ∧ Dd K F0 H' v2 xD ∧ Dd K F0 H' v3 testD ∧ Same H H', ?_, ?_⟩
  · refine (gv_tup (K := K) (ok := F0) (H0 := H1) (ga_cons (gv_s "cell") (ga_cons (gv_s "t") (ga_cons (gv_var (i := 1) rfl d1) (ga_cons (gv_s "in") ga_nil))))) H1 _ (fun _ _ e => e) fun H2 v s2 hv => ?_
    exact ⟨v0, v1, v2, v, rfl, d0.keep (KeepO.of s2), d1.keep (KeepO.of s2), d2.keep (KeepO.of s2), hv, s1.trans s2⟩
  clear d0 d1 d2 s1
  rintro σ2 H2 ⟨v0, v1, v2, v3, rfl, d0, d1, d2, d3, s2⟩
  refine ⟨OBH K hand1 H, ?_, ?_⟩
  · refine gl_lst (K := K) (ok := F0) (H0 := H2) (ga_cons (gv_tup (ga_cons (gv_var (i := 0) rfl d0) (ga_cons (gv_s "-7") ga_nil))) (ga_cons (gv_tup (ga_cons (gv_tup (ga_cons (gv_s "int") (ga_cons (gv_i 0) ga_nil))) (ga_cons (gv_s "0") ga_nil))) (ga_cons (gv_tup (ga_cons (gv_var (i := 1) rfl d1) (ga_cons (gv_s "key") ga_nil))) (ga_cons (gv_tup (ga_cons (gv_var (i := 2) rfl d2) (ga_cons (gv_s "x") ga_nil))) (ga_cons (gv_tup (ga_cons (gv_tup (ga_cons (gv_s "cell") (ga_cons (gv_s "t") (ga_cons (gv_var (i := 1) rfl d1) (ga_cons (gv_s "a") ga_nil))))) (ga_cons (gv_s "t[key].a") ga_nil))) ga_nil))))) (by decide) (fun _ _ e => e) fun H3 L us s3 n3 hL hus => ?_
    exact ⟨v0, v1, v2, v3, L, us, rfl, d0.keep (KeepO.of s3), d1.keep (KeepO.of s3), d2.keep (KeepO.of s3), d3.keep (KeepO.of s3), hL, hus, s2.free n3, s2.trans s3⟩
  clear d0 d1 d2 d3 s2
  rintro σ2 H2 ⟨v0, v1, v2, v3, L, us, rfl, d0, d1, d2, d3, hL, hus, n0, s2⟩
  refine ⟨OBH K (hand1 ++ hand2) H, ?_, ?_⟩
  · refine gl_more (i := 4) (K := K) (ok := F0) (H0 := H2) rfl hL hus (ga_cons (gv_tup (ga_cons (gv_tup (ga_cons (gv_s "+") (ga_cons (gv_var (i := 2) rfl d2) (ga_cons (gv_var (i := 0) rfl d0) ga_nil)))) (ga_cons (gv_s "(x + -7)") ga_nil))) (ga_cons (gv_tup (ga_cons (gv_tup (ga_cons (gv_s "-") (ga_cons (gv_var (i := 2) rfl d2) (ga_cons (gv_var (i := 0) rfl d0) ga_nil)))) (ga_cons (gv_s "(x - -7)") ga_nil))) (ga_cons (gv_tup (ga_cons (gv_tup (ga_cons (gv_s "*") (ga_cons (gv_var (i := 2) rfl d2) (ga_cons (gv_var (i := 1) rfl d1) ga_nil)))) (ga_cons (gv_s "(x * key)") ga_nil))) ga_nil))) (by decide) (fun _ _ e => e) fun H3 L' vs s3 n3 hL' hvs => ?_
    exact ⟨v0, v1, v2, v3, L', vs, rfl, d0.keep (KeepO.of s3), d1.keep (KeepO.of s3), d2.keep (KeepO.of s3), d3.keep (KeepO.of s3), hL', hvs, s2.free n3, s2.trans s3⟩
  clear d0 d1 d2 d3 s2 hL hus n0
  rintro σ2 H2 ⟨v0, v1, v2, v3, L, us, rfl, d0, d1, d2, d3, hL, hus, n0, s2⟩
  refine ⟨OBH K ((hand1 ++ hand2) ++ hand3) H, ?_, ?_⟩
  · refine gl_more (i := 4) (K := K) (ok := F0) (H0 := H2) rfl hL hus (ga_cons (gv_tup (ga_cons (gv_tup (ga_cons (gv_s "<") (ga_cons (gv_var (i := 2) rfl d2) (ga_cons (gv_var (i := 2) rfl d2) ga_nil)))) (ga_cons (gv_s "(x < x)") ga_nil))) (ga_cons (gv_tup (ga_cons (gv_tup (ga_cons (gv_s "=") (ga_cons (gv_var (i := 0) rfl d0) (ga_cons (gv_var (i := 2) rfl d2) ga_nil)))) (ga_cons (gv_s "(-7 = x)") ga_nil))) (ga_cons (gv_tup (ga_cons (gv_tup (ga_cons (gv_s "if") (ga_cons (gv_var (i := 2) rfl d2) (ga_cons (gv_var (i := 0) rfl d0) (ga_cons (gv_var (i := 1) rfl d1) ga_nil))))) (ga_cons (gv_s "if(x, -7, key)") ga_nil))) ga_nil))) (by decide) (fun _ _ e => e) fun H3 L' vs s3 n3 hL' hvs => ?_
    exact ⟨v0, v1, v2, v3, L', vs, rfl, d0.keep (KeepO.of s3), d1.keep (KeepO.of s3), d2.keep (KeepO.of s3), d3.keep (KeepO.of s3), hL', hvs, s2.free n3, s2.trans s3⟩
  clear d0 d1 d2 d3 s2 hL hus n0
  rintro σ2 H2 ⟨v0, v1, v2, v3, L, us, rfl, d0, d1, d2, d3, hL, hus, n0, s2⟩
  refine ⟨OBH K (((hand1 ++ hand2) ++ hand3) ++ hand4) H, ?_, ?_⟩
  · refine gl_more (i := 4) (K := K) (ok := F0) (H0 := H2) rfl hL hus (ga_cons (gv_tup (ga_cons (gv_tup (ga_cons (gv_s "at") (ga_cons (gv_var (i := 2) rfl d2) (ga_cons (gv_var (i := 1) rfl d1) ga_nil)))) (ga_cons (gv_s "at(x, key)") ga_nil))) (ga_cons (gv_tup (ga_cons (gv_tup (ga_cons (gv_s "count") (ga_cons (gv_s "t") (ga_cons (gv_tup ga_nil) (ga_cons (gv_var (i := 3) rfl d3) (ga_cons (gv_var (i := 1) rfl d1) ga_nil)))))) (ga_cons (gv_s "count(t, key)") ga_nil))) ga_nil)) (by decide) (fun _ _ e => e) fun H3 L' vs s3 n3 hL' hvs => ?_
    exact ⟨v0, v1, v2, v3, L', vs, rfl, d0.keep (KeepO.of s3), d1.keep (KeepO.of s3), d2.keep (KeepO.of s3), d3.keep (KeepO.of s3), hL', hvs, s2.free n3, s2.trans s3⟩
  clear d0 d1 d2 d3 s2 hL hus n0
  rintro σ2 H2 ⟨v0, v1, v2, v3, L, us, rfl, d0, d1, d2, d3, hL, hus, n0, s2⟩
  refine ⟨OBH K ((((hand1 ++ hand2) ++ hand3) ++ hand4) ++ [prD (aggD "sum" [xD, keyD]) "sum(t, x, key)"]) H, ?_, ?_⟩
  · refine ⟨.ref L, rfl, .inl ⟨rfl, _, .inl (.inl hL)⟩, ?_⟩
    refine (gv_tup (K := K) (ok := F0) (H0 := H2) (ga_cons (gv_tup (ga_cons (gv_s "sum") (ga_cons (gv_s "t") (ga_cons (gv_tup ga_nil) (ga_cons (gv_var (i := 3) rfl d3) (ga_cons (gv_var (i := 2) rfl d2) (ga_cons (gv_var (i := 1) rfl d1) ga_nil))))))) (ga_cons (gv_s "sum(t, x, key)") ga_nil))) H2 _ (fun _ _ e => e) fun H3 v s3 hv => ?_
    have h3 := s3 _ _ hL
    have kt : KeepT H3 (upd H3 L (.lst (us ++ [v]))) := KeepT.lst h3
    have hul := hus.len
    have hln : us.length ≤ 100 := by rw [hul]; decide
    exact ⟨L, us, v, rfl, rfl, h3, small1000 (by omega), v0, v1, v2, v3, L, us ++ [v], rfl, (d0.keep (KeepO.of s3)).keep (kf0 kt), (d1.keep (KeepO.of s3)).keep (kf0 kt), (d2.keep (KeepO.of s3)).keep (kf0 kt), (d3.keep (KeepO.of s3)).keep (kf0 kt), upd_same, DdAll.app ((hus.keep (KeepO.of s3)).keep (kf0 kt)) (.cons (hv.keep (kf0 kt)) .nil), n0, fun b o e => by rw [upd_ne (ne_of_none e n0)]; exact s3 _ _ (s2 _ _ e)⟩
  clear d0 d1 d2 d3 s2 hL hus n0
  rintro σ2 H2 ⟨v0, v1, v2, v3, L, us, rfl, d0, d1, d2, d3, hL, hus, n0, s2⟩
  refine ⟨OBH K (((((hand1 ++ hand2) ++ hand3) ++ hand4) ++ [prD (aggD "sum" [xD, keyD]) "sum(t, x, key)"]) ++ [prD (aggD "most" [xD, keyD, oneD]) "most(t, x, key, -7)"]) H, ?_, ?_⟩
  · refine ⟨.ref L, rfl, .inl ⟨rfl, _, .inl (.inl hL)⟩, ?_⟩
    refine (gv_tup (K := K) (ok := F0) (H0 := H2) (ga_cons (gv_tup (ga_cons (gv_s "most") (ga_cons (gv_s "t") (ga_cons (gv_tup ga_nil) (ga_cons (gv_var (i := 3) rfl d3) (ga_cons (gv_var (i := 2) rfl d2) (ga_cons (gv_var (i := 1) rfl d1) (ga_cons (gv_var (i := 0) rfl d0) ga_nil)))))))) (ga_cons (gv_s "most(t, x, key, -7)") ga_nil))) H2 _ (fun _ _ e => e) fun H3 v s3 hv => ?_
    have h3 := s3 _ _ hL
    have kt : KeepT H3 (upd H3 L (.lst (us ++ [v]))) := KeepT.lst h3
    have hul := hus.len
    have hln : us.length ≤ 100 := by rw [hul]; decide
    exact ⟨L, us, v, rfl, rfl, h3, small1000 (by omega), v0, v1, v2, v3, L, us ++ [v], rfl, (d0.keep (KeepO.of s3)).keep (kf0 kt), (d1.keep (KeepO.of s3)).keep (kf0 kt), (d2.keep (KeepO.of s3)).keep (kf0 kt), (d3.keep (KeepO.of s3)).keep (kf0 kt), upd_same, DdAll.app ((hus.keep (KeepO.of s3)).keep (kf0 kt)) (.cons (hv.keep (kf0 kt)) .nil), n0, fun b o e => by rw [upd_ne (ne_of_none e n0)]; exact s3 _ _ (s2 _ _ e)⟩
  clear d0 d1 d2 d3 s2 hL hus n0
  rintro σ2 H2 ⟨v0, v1, v2, v3, L, us, rfl, d0, d1, d2, d3, hL, hus, n0, s2⟩
  refine ⟨OBH K ((((((hand1 ++ hand2) ++ hand3) ++ hand4) ++ [prD (aggD "sum" [xD, keyD]) "sum(t, x, key)"]) ++ [prD (aggD "most" [xD, keyD, oneD]) "most(t, x, key, -7)"]) ++ [prD (cellD "sums" (.tuple [.str "var", .str "iff"]) "atone") "sums[iff].atone"]) H, ?_, ?_⟩
  · refine ⟨.ref L, rfl, .inl ⟨rfl, _, .inl (.inl hL)⟩, ?_⟩
    refine (gv_tup (K := K) (ok := F0) (H0 := H2) (ga_cons (gv_tup (ga_cons (gv_s "cell") (ga_cons (gv_s "sums") (ga_cons (gv_tup (ga_cons (gv_s "var") (ga_cons (gv_s "iff") ga_nil))) (ga_cons (gv_s "atone") ga_nil))))) (ga_cons (gv_s "sums[iff].atone") ga_nil))) H2 _ (fun _ _ e => e) fun H3 v s3 hv => ?_
    have h3 := s3 _ _ hL
    have kt : KeepT H3 (upd H3 L (.lst (us ++ [v]))) := KeepT.lst h3
    have hul := hus.len
    have hln : us.length ≤ 100 := by rw [hul]; decide
    exact ⟨L, us, v, rfl, rfl, h3, small1000 (by omega), v0, v1, v2, v3, L, us ++ [v], rfl, (d0.keep (KeepO.of s3)).keep (kf0 kt), (d1.keep (KeepO.of s3)).keep (kf0 kt), (d2.keep (KeepO.of s3)).keep (kf0 kt), (d3.keep (KeepO.of s3)).keep (kf0 kt), upd_same, DdAll.app ((hus.keep (KeepO.of s3)).keep (kf0 kt)) (.cons (hv.keep (kf0 kt)) .nil), n0, fun b o e => by rw [upd_ne (ne_of_none e n0)]; exact s3 _ _ (s2 _ _ e)⟩
  clear d0 d1 d2 d3 s2 hL hus n0
  rintro σ2 H2 ⟨v0, v1, v2, v3, L, us, rfl, d0, d1, d2, d3, hL, hus, n0, s2⟩
  refine ⟨OBH K (((((((hand1 ++ hand2) ++ hand3) ++ hand4) ++ [prD (aggD "sum" [xD, keyD]) "sum(t, x, key)"]) ++ [prD (aggD "most" [xD, keyD, oneD]) "most(t, x, key, -7)"]) ++ [prD (cellD "sums" (.tuple [.str "var", .str "iff"]) "atone") "sums[iff].atone"]) ++ [prD (.tuple [.str "var", .str "counts"]) "counts"]) H, ?_, ?_⟩
  · refine ⟨.ref L, rfl, .inl ⟨rfl, _, .inl (.inl hL)⟩, ?_⟩
    refine (gv_tup (K := K) (ok := F0) (H0 := H2) (ga_cons (gv_tup (ga_cons (gv_s "var") (ga_cons (gv_s "counts") ga_nil))) (ga_cons (gv_s "counts") ga_nil))) H2 _ (fun _ _ e => e) fun H3 v s3 hv => ?_
    have h3 := s3 _ _ hL
    have kt : KeepT H3 (upd H3 L (.lst (us ++ [v]))) := KeepT.lst h3
    have hul := hus.len
    have hln : us.length ≤ 100 := by rw [hul]; decide
    exact ⟨L, us, v, rfl, rfl, h3, small1000 (by omega), v0, v1, v2, v3, L, us ++ [v], rfl, (d0.keep (KeepO.of s3)).keep (kf0 kt), (d1.keep (KeepO.of s3)).keep (kf0 kt), (d2.keep (KeepO.of s3)).keep (kf0 kt), (d3.keep (KeepO.of s3)).keep (kf0 kt), upd_same, DdAll.app ((hus.keep (KeepO.of s3)).keep (kf0 kt)) (.cons (hv.keep (kf0 kt)) .nil), n0, fun b o e => by rw [upd_ne (ne_of_none e n0)]; exact s3 _ _ (s2 _ _ e)⟩
  clear d0 d1 d2 d3 s2 hL hus n0
  rintro σ2 H2 ⟨v0, v1, v2, v3, L, us, rfl, d0, d1, d2, d3, hL, hus, n0, s2⟩
  refine gl_more (i := 4) (K := K) (ok := F0) (H0 := H2) rfl hL hus (ga_cons (gv_tup (ga_cons (gv_tup (ga_cons (gv_s "first") (ga_cons (gv_s "t") (ga_cons (gv_tup ga_nil) (ga_cons (gv_var (i := 3) rfl d3) (ga_cons (gv_var (i := 2) rfl d2) (ga_cons (gv_var (i := 0) rfl d0) ga_nil))))))) (ga_cons (gv_s "first(t, x, -7)") ga_nil))) (ga_cons (gv_tup (ga_cons (gv_tup (ga_cons (gv_s "var") (ga_cons (gv_s "keys") ga_nil))) (ga_cons (gv_s "keys") ga_nil))) ga_nil)) (by decide) (fun _ _ e => e) fun H3 L' vs s3 n3 hL' hvs => ?_
  exact q H3 L' vs (s2.trans s3) hL' hvs
end
end K7

/-! what is shown and read; _law_right -/
namespace K7
open PySem PySem.Spec PyProof.Rows L2 GR AD RZ WX ZE TX RVT
open SX (S S_cat S_len S_inj)
mutual
/-- what its text takes at most -/
def wl : PyData → Nat
  | .tuple ds => wls ds + 3
  | .list ds => wls ds + 3
  | .dict kvs => (PyData.dict kvs).shown.length
  | .str z => (PyData.str z).shown.length
  | .int i => (PyData.int i).shown.length
  | .bool b => (PyData.bool b).shown.length
  | .none => PyData.none.shown.length
def wls : List PyData → Nat
  | [] => 0
  | d :: ds => wl d + 2 + wls ds
end
mutual
theorem shown_wl : ∀ d : PyData, d.shown.length ≤ wl d
  | .tuple ds => by
    have h1 := tupleText_len_le (PyData.shownAll ds)
    have h2 := shown_wls ds
    rw [PyData.shownAll_length] at h1
    simp only [PyData.shown, wl]
    omega
  | .list ds => by
    have h1 := listText_len_le (PyData.shownAll ds)
    have h2 := shown_wls ds
    rw [PyData.shownAll_length] at h1
    simp only [PyData.shown, wl]
    omega
  | .dict kvs => by rw [wl]; omega
  | .str z => by rw [wl]; omega
  | .int i => by rw [wl]; omega
  | .bool b => by rw [wl]; omega
  | .none => by rw [wl]; omega
theorem shown_wls : ∀ ds : List PyData, ((PyData.shownAll ds).map (·.length)).sum + 2 * ds.length ≤ wls ds
  | [] => by simp only [PyData.shownAll, List.map_nil, List.sum_nil, List.length_nil, wls]; omega
  | d :: ds => by
    have := shown_wl d
    have := shown_wls ds
    simp only [PyData.shownAll, List.map_cons, List.sum_cons, List.length_cons, wls]
    omega
end
theorem char1C : ∀ c, c < 127 → okC c = true → (Builtin.Str.reprChar 39 c).length = 1 := by decide +kernel
theorem fold_lenC : ∀ (l : List Nat) (acc : Array Nat), (∀ c, c ∈ l → okC c = true) → (l.foldl (fun out c => out ++ (Builtin.Str.reprChar 39 c).toArray) acc).size = acc.size + l.length
  | [], acc, _ => rfl
  | c :: l, acc, h => by
    have hc := h c List.mem_cons_self
    have h1 := char1C c (okC_iff.mp hc).1.2 hc
    have h2 : (Builtin.Str.reprChar 39 c).toArray.size = 1 := by rw [List.size_toArray]; exact h1
    rw [List.foldl_cons, fold_lenC l _ fun d hd => h d (List.mem_cons_of_mem _ hd), Array.size_append, h2, List.length_cons]
    omega
/-- a plain text shows as itself within quotes -/
theorem wl_ok {z : Str} (h : z.cps.toList.all okC = true) : wl (.str z) = z.length + 2 := by
  have h3 := List.all_eq_true.mp h
  have hq : PySem.reprQuote z = 39 := by
    unfold PySem.reprQuote
    rw [if_neg]
    intro e
    rw [Bool.and_eq_true] at e
    have := e.1
    rw [Array.contains_iff_mem] at this
    exact (okC_iff.mp (h3 39 (Array.mem_toList_iff.mpr this))).2.1 rfl
  rw [wl, PyData.shown_str]
  unfold PySem.reprText
  rw [hq]
  show ((z.cps.foldl (fun out c => out ++ (Builtin.Str.reprChar 39 c).toArray) #[39]).push 39).size = z.length + 2
  rw [Array.size_push, ← Array.foldl_toList, fold_lenC _ _ h3, Array.length_toList]
  show 1 + z.cps.size + 1 = z.cps.size + 2
  omega
theorem flatDs_all : ∀ {ds : List PyData}, (∀ d, d ∈ ds → flatD d = true) → flatDs ds = true
  | [], _ => by rw [flatDs]
  | d :: ds, h => by rw [flatDs, h d List.mem_cons_self, flatDs_all fun x hx => h x (List.mem_cons_of_mem _ hx)]; rfl
theorem zip_left {P : PyData → Prop} {xs : List PyData} {ls : List (List Nat)} (hl : ls.length = xs.length) (h : ∀ p, p ∈ xs.zip ls → P p.1) : ∀ x, x ∈ xs → P x := fun x hx => by
  obtain ⟨i, hi, rfl⟩ := List.getElem_of_mem hx
  have hx : i < ls.length := by omega
  refine h (xs[i], ls[i]) (List.mem_of_getElem? (i := i) ?_)
  rw [List.getElem?_zip_eq_some]
  exact ⟨List.getElem?_eq_getElem hi, List.getElem?_eq_getElem hx⟩
theorem Tx.flat {n : Nat} {d : PyData} {l : List Nat} (h : Tx n d l) : flatD d = true := by
  induction h with
  | int n i h1 h2 => rfl
  | key n => rfl
  | var n z hz => rfl
  | cell n t v x l h1 h2 _ ih => simp only [flatD, flatDs, ih, Bool.and_self, Bool.and_true]
  | op n o x y l m ho _ _ ih1 ih2 => simp only [flatD, flatDs, ih1, ih2, Bool.and_self, Bool.and_true]
  | call n o xs ls ho hl _ ih =>
    have := flatDs_all (zip_left (P := fun d => flatD d = true) hl ih)
    simp only [flatD, flatDs, this, Bool.and_self]
  | agg n o t xs ls h0 ho ht hl _ ih =>
    have := flatDs_all (zip_left (P := fun d => flatD d = true) hl ih)
    have e : flatD (rowX t) = true := rfl
    simp only [flatD, flatDs, this, e, Bool.and_self]

theorem sh_all : ∀ {ds : List PyData}, (∀ d, d ∈ ds → d.showable = true) → PyData.showableAll ds = true
  | [], _ => by simp only [PyData.showableAll]
  | d :: ds, h => by simp only [PyData.showableAll, h d List.mem_cons_self, sh_all fun x hx => h x (List.mem_cons_of_mem _ hx), Bool.and_self]
theorem lay_all : ∀ {ds : List PyData}, (∀ d, d ∈ ds → d.canLay0 = true) → PyData.canLayAll0 ds = true
  | [], _ => by simp only [PyData.canLayAll0]
  | d :: ds, h => by simp only [PyData.canLayAll0, h d List.mem_cons_self, lay_all fun x hx => h x (List.mem_cons_of_mem _ hx), Bool.and_self]
theorem dep_all {n : Nat} : ∀ {ds : List PyData}, (∀ d, d ∈ ds → d.depth ≤ n) → PyData.depthAll ds ≤ n
  | [], _ => by simp only [PyData.depthAll]; omega
  | d :: ds, h => by
    have h1 := h d List.mem_cons_self
    have h2 := dep_all fun x hx => h x (List.mem_cons_of_mem _ hx)
    simp only [PyData.depthAll]
    omega
theorem wls_all : ∀ {ds : List PyData}, (∀ d, d ∈ ds → wl d + 2 ≤ 60 * sz d) → wls ds ≤ 60 * szs ds
  | [], _ => by rw [wls]; omega
  | d :: ds, h => by
    have h1 := h d List.mem_cons_self
    have h2 := wls_all fun x hx => h x (List.mem_cons_of_mem _ hx)
    rw [wls, szs]
    omega
/-- what repr asks -/
structure Pr (n : Nat) (d : PyData) : Prop where
  shw : d.showable = true
  dep : d.depth ≤ n
  lay : d.canLay0 = true
  wl : wl d + 2 ≤ 60 * sz d
theorem pr_tup {n : Nat} {ds : List PyData} (h : ∀ d, d ∈ ds → Pr n d) : Pr (n + 1) (.tuple ds) := by
  have h1 := sh_all fun d hd => (h d hd).shw
  have h2 := dep_all fun d hd => (h d hd).dep
  have h3 := lay_all fun d hd => (h d hd).lay
  have h4 := wls_all fun d hd => (h d hd).wl
  refine ⟨by simp only [PyData.showable]; exact h1, by simp only [PyData.depth]; omega, by simp only [PyData.canLay0]; exact h3, ?_⟩
  rw [K7.wl, sz]
  omega
theorem pr_str {z : Str} (n : Nat) (h : z.cps.toList.all okC = true) (hl : z.length ≤ 30) : Pr n (.str z) := by
  refine ⟨by simp only [PyData.showable], by simp only [PyData.depth]; omega, by simp only [PyData.canLay0]; exact so_iff.mpr (ok_so h), ?_⟩
  rw [wl_ok h]
  show z.length + 2 + 2 ≤ 60 * 1
  omega
theorem pr_nm {z : Str} (n : Nat) (h : Nm z) : Pr n (.str z) := pr_str n (nm_okC h) (by
  have := h.2.1
  rw [Array.length_toList] at this
  show z.cps.size ≤ 30
  omega)
theorem pr_int (n : Nat) {i : Int} (h1 : -(10 ^ 18) ≤ i) (h2 : i ≤ 10 ^ 18) : Pr n (.int i) := by
  have hn : i.natAbs ≤ 10 ^ 18 := by omega
  refine ⟨?_, by simp only [PyData.depth]; omega, by simp only [PyData.canLay0], ?_⟩
  · simp only [PyData.showable]
    refine decide_eq_true ?_
    by_cases e : i.natAbs = 0
    · rw [e]; decide
    · exact (Nat.log2_lt e).mpr (Nat.lt_of_le_of_lt hn (Nat.lt_of_lt_of_le (show 10 ^ 18 < 2 ^ 60 by decide) (Nat.pow_le_pow_right (by decide) (by decide))))
  · rw [wl, PyData.shown_int]
    have := num_len h1 h2
    have e : (PySem.Str.ofString (toString i)).length ≤ 20 := by rw [str_num, S_len]; exact this
    show (PySem.Str.ofString (toString i)).length + 2 ≤ 60 * 1
    omega
theorem mem2 {P : PyData → Prop} {a b : PyData} (ha : P a) (hb : P b) : ∀ d, d ∈ [a, b] → P d := fun d hd => by
  simp only [List.mem_cons, List.not_mem_nil, or_false] at hd
  rcases hd with rfl | rfl
  · exact ha
  · exact hb
theorem Tx.pr {n : Nat} {d : PyData} {l : List Nat} (h : Tx n d l) : Pr n d := by
  induction h with
  | int n i h1 h2 => exact pr_tup (mem2 (pr_str n (by decide +kernel) (by decide)) (pr_int n h1 h2))
  | key n => exact pr_tup fun d hd => by rw [List.mem_singleton.mp hd]; exact pr_str n (by decide +kernel) (by decide)
  | var n z hz => exact pr_tup (mem2 (pr_str n (by decide +kernel) (by decide)) (pr_nm n hz))
  | cell n t v x l h1 h2 _ ih =>
    refine pr_tup fun d hd => ?_
    simp only [List.mem_cons, List.not_mem_nil, or_false] at hd
    rcases hd with rfl | rfl | rfl | rfl
    · exact pr_str n (by decide +kernel) (by decide)
    · exact pr_nm n h1
    · exact ih
    · exact pr_nm n h2
  | op n o x y l m ho _ _ ih1 ih2 =>
    have hw : o.cps.toList.all okC = true ∧ o.length ≤ 30 := by
      simp only [ops5, List.mem_cons, List.not_mem_nil, or_false] at ho
      rcases ho with rfl | rfl | rfl | rfl | rfl <;> exact ⟨by decide +kernel, by decide⟩
    refine pr_tup fun d hd => ?_
    simp only [List.mem_cons, List.not_mem_nil, or_false] at hd
    rcases hd with rfl | rfl | rfl
    · exact pr_str n hw.1 hw.2
    · exact ih1
    · exact ih2
  | call n o xs ls ho hl _ ih =>
    have hw : o.cps.toList.all okC = true ∧ o.length ≤ 30 := by
      simp only [callk, List.mem_cons, List.not_mem_nil, or_false, Prod.mk.injEq] at ho
      rcases ho with ⟨rfl, e⟩ | ⟨rfl, e⟩ <;> exact ⟨by decide +kernel, by decide⟩
    have := zip_left (P := fun d => Pr n d) hl ih
    refine pr_tup fun d hd => ?_
    rcases List.mem_cons.mp hd with rfl | hd
    · exact pr_str n hw.1 hw.2
    · exact this d hd
  | agg n o t xs ls h0 ho ht hl _ ih =>
    have hw : o.cps.toList.all okC = true ∧ o.length ≤ 30 := by
      simp only [aggn, List.mem_cons, List.not_mem_nil, or_false, Prod.mk.injEq] at ho
      rcases ho with ⟨rfl, e⟩ | ⟨rfl, e⟩ | ⟨rfl, e⟩ | ⟨rfl, e⟩ <;> exact ⟨by decide +kernel, by decide⟩
    have := zip_left (P := fun d => Pr n d) hl ih
    obtain ⟨m, rfl⟩ : ∃ m, n = m + 1 + 1 := ⟨n - 2, by omega⟩
    refine pr_tup fun d hd => ?_
    simp only [List.mem_cons] at hd
    rcases hd with rfl | rfl | rfl | rfl | hd
    · exact pr_str _ hw.1 hw.2
    · exact pr_nm _ ht
    · exact pr_tup fun d hd => nomatch hd
    · refine pr_tup fun d hd => ?_
      simp only [List.mem_cons, List.not_mem_nil, or_false] at hd
      rcases hd with rfl | rfl | rfl | rfl
      · exact pr_str _ (by decide +kernel) (by decide)
      · exact pr_nm _ ht
      · exact pr_tup fun d hd => by rw [List.mem_singleton.mp hd]; exact pr_str _ (by decide +kernel) (by decide)
      · exact pr_str _ (by decide +kernel) (by decide)
    · exact this d hd
/-- all that is asked of what is shown and read -/
structure Gx (d : PyData) (l : List Nat) : Prop where
  tx : Tx 30 d l
  sz : sz d ≤ 20000
theorem Gx.shw {d : PyData} {l : List Nat} (h : Gx d l) : Shw d := by
  have p := h.tx.pr
  have h1 := shown_wl d
  have h2 := p.wl
  have h3 := h.sz
  exact ⟨p.shw, Nat.le_trans p.dep (by decide), by rw [sizeLine_eq]; omega⟩
theorem Gx.len {d : PyData} {l : List Nat} (h : Gx d l) : l.length ≤ 600000 := by
  have h1 := h.tx.len
  have h2 := h.sz
  omega
theorem Gx.shown {d : PyData} {l : List Nat} (h : Gx d l) : PyData.strOk d.shown = true := shown_ok h.tx.pr.lay
theorem chr_ok {l : List Nat} (h : ∀ c, c ∈ l → c < 256) : PyData.strOk (S l) = true := so_iff.mpr fun c hc => by
  have hc : c ∈ l := hc
  have := h c hc
  omega
end K7

/-! _law_right -/
namespace K7
open PySem PySem.Spec PyProof.Rows L2 GR AD RZ WX ZE TX RVT
open SX (S S_cat S_len S_inj)
theorem oka {a b : List Nat} (h : a.all okC = true) (t : b.all okC = true) : (a ++ b).all okC = true := by rw [List.all_append, h, t]; rfl
theorem okc {c : Nat} {b : List Nat} (h : okC c = true) (t : b.all okC = true) : (c :: b).all okC = true := by rw [List.all_cons, h, t]; rfl
theorem num_okC (i : Int) : (num i).all okC = true := by
  obtain ⟨ng, ds, h, _, hds⟩ := num_form i
  rw [h]
  refine oka (by cases ng <;> decide) (List.all_eq_true.mpr fun c hc => okC_iff.mpr ?_)
  have := List.all_eq_true.mp hds c hc
  rw [Bool.and_eq_true, decide_eq_true_eq, decide_eq_true_eq] at this
  omega
theorem commas_ok : ∀ {ls : List (List Nat)}, (∀ l, l ∈ ls → l.all okC = true) → (commas ls).all okC = true
  | [], _ => rfl
  | [l], h => h l (List.mem_singleton.mpr rfl)
  | l :: m :: r, h => by
    show (l ++ ([44, 32] ++ commas (m :: r))).all okC = true
    exact oka (h l List.mem_cons_self) (oka (by decide) (commas_ok fun x hx => h x (List.mem_cons_of_mem _ hx)))
theorem zip_ok {xs : List PyData} {ls : List (List Nat)} (hl : ls.length = xs.length) (h : ∀ p, p ∈ xs.zip ls → p.2.all okC = true) : ∀ l, l ∈ ls → l.all okC = true := fun l hm => by
  obtain ⟨i, hi, rfl⟩ := List.getElem_of_mem hm
  have hx : i < xs.length := by omega
  refine h (xs[i], ls[i]) (List.mem_of_getElem? (i := i) ?_)
  rw [List.getElem?_zip_eq_some]
  exact ⟨List.getElem?_eq_getElem hx, List.getElem?_eq_getElem hi⟩
theorem Tx.okc {n : Nat} {d : PyData} {l : List Nat} (h : Tx n d l) : l.all okC = true := by
  induction h with
  | int n i h1 h2 => exact num_okC i
  | key n => decide +kernel
  | var n z hz => exact nm_okC hz
  | cell n t v x l h1 h2 _ ih => exact oka (nm_okC h1) (K7.okc (by decide) (oka ih (K7.okc (by decide) (K7.okc (by decide) (nm_okC h2)))))
  | op n o x y l m ho _ _ ih1 ih2 =>
    have hw : (wd o).all okC = true := by
      simp only [ops5, List.mem_cons, List.not_mem_nil, or_false] at ho
      rcases ho with rfl | rfl | rfl | rfl | rfl <;> decide +kernel
    exact K7.okc (by decide) (oka ih1 (K7.okc (by decide) (oka hw (K7.okc (by decide) (oka ih2 (by decide))))))
  | call n o xs ls ho hl _ ih =>
    have hw : (wd o).all okC = true := by
      simp only [callk, List.mem_cons, List.not_mem_nil, or_false, Prod.mk.injEq] at ho
      rcases ho with ⟨rfl, e⟩ | ⟨rfl, e⟩ <;> decide +kernel
    exact oka hw (K7.okc (by decide) (oka (commas_ok (zip_ok hl ih)) (by decide)))
  | agg n o t xs ls h0 ho ht hl _ ih =>
    have hw : (wd o).all okC = true := by
      simp only [aggn, List.mem_cons, List.not_mem_nil, or_false, Prod.mk.injEq] at ho
      rcases ho with ⟨rfl, e⟩ | ⟨rfl, e⟩ | ⟨rfl, e⟩ | ⟨rfl, e⟩ <;> decide +kernel
    exact oka hw (K7.okc (by decide) (oka (nm_okC ht) (K7.okc (by decide) (K7.okc (by decide) (oka (commas_ok (zip_ok hl ih)) (by decide))))))
theorem shaped_strs3 {x : Str} (h : PyData.strOk x = true) : SeqAt.shaped (.list [.str x, .str x, .str x]) = true := by
  unfold SeqAt.shaped
  rw [Bool.and_eq_true]
  refine ⟨by simp only [PyData.canLay0, PyData.canLayAll0, h, Bool.and_self], decide_eq_true ?_⟩
  simp only [PyData.depth, PyData.depthAll]
  omega
section
variable {P : Program} {w : World} {K : PySem.W.Frag} {mg : Str → Option Value} {base : Heap}
abbrev s_law_right : Stmt := topS 43
theorem sc_law_right : FnScope ["_law_thing", "_law_before", "_law_due", "_law_told"] ["_law_thing"] (defScope s_law_right) := ⟨rfl, rfl, rfl, by decide +kernel, rfl, by decide +kernel, by decide +kernel⟩
def sp_right (K : PySem.W.Frag) : Sp := fun vs H Q _ => ∃ (v : V) (d : PyData) (l : List Nat), vs = [v] ∧ Dd K F0 H v d ∧ Gx d l ∧ ∀ H', Same H H' → Q (.bl true) H'
theorem ok_right {f : Addr} {fd : FuncData} {k : Nat} (F : Fun K "_law_right" "_law_right" s_law_right f fd) (XW : DF P w K mg base "_law_written" ["_law_thing"] (sp_ltext K 30) k) (XS : DF P w K mg base "show_expression" ["expression"] (sp_show K) k)
    (XR : DF P w K mg base "read_expression" ["thing"] (sp_rex K 30) k) (mrepr : mg "repr" = none) : FnG P w K mg base CX0 (k + 1) f fd ["_law_thing"] (sp_right K) := by
  have nd := sc_law_right.nd
  obtain ⟨fw, dw, GW, gW, KW, bW⟩ := XW
  obtain ⟨fs, dS, GS, gS, KS, bS⟩ := XS
  obtain ⟨fr, dr, GR, gR, KR, bR⟩ := XR
  refine ok_g F sc_law_right (fun vs H Q E h => ?_) (fun cdv A outer s H vs Q E hg hr h => ?_)
  · obtain ⟨v, d, l, rfl, _⟩ := h
    rfl
  obtain ⟨v, d, l, rfl, hd, hG, q⟩ := h
  refine ⟨_, (pss_cons (ps_par (i := 1) (j := 2) rfl nd rfl rfl (by decide) rfl rfl (pa_cons (pe_callB (call_reprA hg hr) (by rfl) mrepr boot_repr (pa_cons (pv 0) pa_nil)) (pa_cons (pe_call GW hr (by rfl) gW KW bW .nil pass0 (pa_cons (pv 0) pa_nil)) pa_nil)) (by rfl))
      (pss_cons (ps_set (i := 3) nd rfl (.inl rfl) (pe_lst (pa_cons (pe_call GS hr (by rfl) gS KS bS .nil pass0 (pa_cons (pv 0) pa_nil)) (pa_cons (pe_call GS hr (by rfl) gS KS bS .nil pass0 (pa_cons (pv 0) pa_nil)) (pa_cons (pe_call GS hr (by rfl) gS KS bS .nil pass0 (pa_cons (pe_call GR hr (by rfl) gR KR bR .nil pass0 (pa_cons (pv 2) pa_nil)) pa_nil)) pa_nil)))))
      (pss_cons (ps_if (pt_cmpR op_ne (pe_callB (call_reprD hg hr) (by rfl) mrepr boot_repr (pa_cons (pv 3) pa_nil)) (pe_callB (call_reprD hg hr) (by rfl) mrepr boot_repr (pa_cons (pe_op op_rep (pe_lst (pa_cons (pv 2) pa_nil)) pe_int) pa_nil)) (nomark _))
      (pss_one (ps_ret pe_bl))
      pss_nil)
      (pss_one (ps_ret (pe_cmpR (op_eqD hr.units) (pe_lst (pa_cons (pe_callB (call_reprA hg hr) (by rfl) mrepr boot_repr (pa_cons (pe_call GR hr (by rfl) gR KR bR .nil pass0 (pa_cons (pv 2) pa_nil)) pa_nil)) (pa_cons (pe_callB (call_reprA hg hr) (by rfl) mrepr boot_repr (pa_cons (pe_call GR hr (by rfl) gR KR bR .nil pass0 (pa_cons (pe_ix ix_list (pv 3) pe_int (fun _ _ => rfl)) pa_nil)) pa_nil)) (pa_cons (pe_callB (call_reprA hg hr) (by rfl) mrepr boot_repr (pa_cons (pv 0) pa_nil)) pa_nil)))) (pe_op op_rep (pe_lst (pa_cons (pv 1) pa_nil)) pe_int) (nomark _))))))), ?_⟩
  have hsz : sz d ≤ 100000 := Nat.le_trans hG.sz (by decide)
  have hll : l.length ≤ 8000000 := Nat.le_trans hG.len (by decide)
  refine ⟨v, rfl, v, d, F0, rfl, (fun _ h => h.elim), hd, hG.shw, v, rfl, v, d, l, rfl, hd, hG.tx, hsz, fun H1 s1 => ⟨_, _, rfl, ?_⟩⟩
  have hd1 := hd.keep (KeepO.of s1)
  refine ⟨v, rfl, v, 30, d, l, rfl, hd1, hG.tx, hsz, fun H2 s2 => ⟨v, rfl, v, 30, d, l, rfl, hd1.keep (KeepO.of s2), hG.tx, hsz, fun H3 s3 => ⟨.str (S l), rfl, l, d, rfl, hll, hG.tx, fun H4 v4 s4 hv4 => ⟨v4, 30, d, l, rfl, hv4, hG.tx, hsz, fun H5 s5 => ⟨small_le (show 3 ≤ 1000 by decide), fun L nL => ?_⟩⟩⟩⟩⟩
  have sL := same_upd (o := .lst [.str (S l), .str (S l), .str (S l)]) nL
  have hL : upd H5 L (.lst [.str (S l), .str (S l), .str (S l)]) L = some (.lst [.str (S l), .str (S l), .str (S l)]) := upd_same
  have s15 := ((s2.trans s3).trans (s4.trans s5)).trans sL
  have hd5 := hd1.keep (KeepO.of s15)
  have s05 := s1.trans s15
  revert hL hd5 s05
  generalize upd H5 L (.lst [.str (S l), .str (S l), .str (S l)]) = H6
  intro hL hd5 s05
  have hrl : (PyData.list [.str (S l), .str (S l), .str (S l)]).shown.length ≤ sizeLine := by
    have h1 := shown_wl (.list [.str (S l), .str (S l), .str (S l)])
    have h2 := hG.len
    have h3 : wl (.str (S l)) = (S l).length + 2 := wl_ok hG.tx.okc
    have h4 : (S l).length = l.length := S_len l
    have h5 : wl (.list [.str (S l), .str (S l), .str (S l)]) = (wl (.str (S l)) + 2 + (wl (.str (S l)) + 2 + (wl (.str (S l)) + 2 + 0))) + 3 := by rw [wl, wls, wls, wls, wls]
    rw [sizeLine_eq]
    omega
  have hrs : (PyData.list [.str (S l), .str (S l), .str (S l)]).showable = true := by simp only [PyData.showable, PyData.showableAll, Bool.and_self]
  have hrd : (PyData.list [.str (S l), .str (S l), .str (S l)]).depth ≤ 60 := by simp only [PyData.depth, PyData.depthAll]; omega
  refine ⟨.ref L, rfl, L, .list [.str (S l), .str (S l), .str (S l)], rfl, .lst (.inl (.inl hL)) (.cons (.str _) (.cons (.str _) (.cons (.str _) .nil))), hrs, hrd, hrl, .str (S l), rfl, small_le (show 1 ≤ 1000 by decide), fun M nM => ?_⟩
  have sM := same_upd (o := .lst [.str (S l)]) nM
  refine ⟨M, 3, [.str (S l)], rfl, rfl, upd_same, by decide, by decide, small_le (show 3 ≤ 1000 by decide), fun p np => ?_⟩
  have sp := same_upd (o := .lst (List.replicate (3 : Int).toNat [V.str (S l)]).flatten) np
  refine ⟨p, .list [.str (S l), .str (S l), .str (S l)], rfl, .lst (.inl (.inl upd_same)) (.cons (.str _) (.cons (.str _) (.cons (.str _) .nil))), hrs, hrd, hrl, rfl, _, rfl, ?_⟩
  rw [decide_eq_true rfl]
  have s6 := sM.trans sp
  have hL7 := s6 _ _ hL
  have hd7 := hd5.keep (KeepO.of s6)
  have s07 := s05.trans s6
  revert hL7 hd7 s07
  generalize upd (upd H6 M (.lst [.str (S l)])) p (.lst (List.replicate (3 : Int).toNat [V.str (S l)]).flatten) = H7
  intro hL7 hd7 s07
  refine iteF ⟨.str (S l), rfl, l, d, rfl, hll, hG.tx, fun H8 v8 s8 hv8 => ⟨v8, d, F0, rfl, (fun _ h => h.elim), hv8, hG.shw, ?_⟩⟩
  refine ⟨.ref L, rfl, L, _, 0, .str (S l), rfl, rfl, .inl (.inl (s8 _ _ hL7)), at0, l, d, rfl, hll, hG.tx, fun H9 v9 s9 hv9 => ⟨v9, d, F0, rfl, (fun _ h => h.elim), hv9, hG.shw, ?_⟩⟩
  refine ⟨v, rfl, v, d, F0, rfl, (fun _ h => h.elim), hd7.keep (KeepO.of (s8.trans s9)), hG.shw, small_le (show 3 ≤ 1000 by decide), fun B nB => ?_⟩
  have sB := same_upd (o := .lst [.str d.shown, .str d.shown, .str d.shown]) nB
  refine ⟨.str d.shown, rfl, small_le (show 1 ≤ 1000 by decide), fun M2 nM2 => ?_⟩
  have sM2 := same_upd (o := .lst [.str d.shown]) nM2
  refine ⟨M2, 3, [.str d.shown], rfl, rfl, upd_same, by decide, by decide, small_le (show 3 ≤ 1000 by decide), fun p2 np2 => ?_⟩
  have sp2 := same_upd (o := .lst (List.replicate (3 : Int).toNat [V.str d.shown]).flatten) np2
  have hsd := shaped_strs3 hG.shown
  refine ⟨.list [.str d.shown, .str d.shown, .str d.shown], .list [.str d.shown, .str d.shown, .str d.shown], .lst (.inl (.inl (sp2 _ _ (sM2 _ _ upd_same)))) (.cons (.str _) (.cons (.str _) (.cons (.str _) .nil))), .lst (.inl (.inl upd_same)) (.cons (.str _) (.cons (.str _) (.cons (.str _) .nil))), hsd, hsd, ?_⟩
  rw [SeqAt.eqv_refl _ (SeqAt.canLay_of_shaped hsd)]
  exact q _ ((((s07.trans s8).trans s9).trans sB).trans (sM2.trans sp2))
end
end K7

/-! a text for an expression that the law makes; its size; the texts by hand -/
namespace K7
open PySem PySem.Spec PyProof.Rows L2 GR AD RZ WX ZE TX RVT
open SX (S S_cat S_len S_inj)
/-- texts for all of a list -/
theorem txs_of {n : Nat} : ∀ {xs : List PyData}, (∀ x, x ∈ xs → ∃ l, Tx n x l) → ∃ ls : List (List Nat), ls.length = xs.length ∧ ∀ p, p ∈ xs.zip ls → Tx n p.1 p.2
  | [], _ => ⟨[], rfl, fun p hp => (nomatch hp)⟩
  | x :: xs, h => by
    obtain ⟨l, hl⟩ := h x List.mem_cons_self
    obtain ⟨ls, h1, h2⟩ := txs_of fun y hy => h y (List.mem_cons_of_mem _ hy)
    refine ⟨l :: ls, by rw [List.length_cons, List.length_cons, h1], fun p hp => ?_⟩
    rw [List.zip_cons_cons] at hp
    rcases List.mem_cons.mp hp with rfl | hp
    · exact hl
    · exact h2 p hp
theorem Ex.tx {zs : List Str} (g : ∀ z, z ∈ zs → Nm z) {n : Nat} {x : PyData} (h : Ex zs n x) : ∃ l, Tx n x l := by
  induction h with
  | leaf n x h =>
    cases h with
    | int i h1 h2 => exact ⟨_, .int n i h1 h2⟩
    | key => exact ⟨_, .key n⟩
    | var z hz => exact ⟨_, .var n z (g z hz)⟩
  | cell n t v x h1 h2 _ ih =>
    obtain ⟨l, hl⟩ := ih
    exact ⟨_, .cell n t v x l (g t h1) (g v h2) hl⟩
  | op n o x y h1 _ _ ih1 ih2 =>
    by_cases e : o = "at"
    · subst e
      obtain ⟨ls, h1, h2⟩ := txs_of (n := n) (xs := [x, y]) fun z hz => by
        simp only [List.mem_cons, List.not_mem_nil, or_false] at hz
        rcases hz with rfl | rfl
        · exact ih1
        · exact ih2
      exact ⟨_, .call n "at" [x, y] ls (by show (("at" : Str), 2) ∈ callk; decide) h1 h2⟩
    · obtain ⟨l, hl⟩ := ih1
      obtain ⟨m, hm⟩ := ih2
      refine ⟨_, .op n o x y l m ?_ hl hm⟩
      simp only [opws, List.mem_cons, List.not_mem_nil, or_false] at h1
      rcases h1 with rfl | rfl | rfl | rfl | rfl | rfl
      · decide
      · decide
      · decide
      · decide
      · decide
      · exact absurd rfl e
  | iff n x y z _ _ _ ih1 ih2 ih3 =>
    obtain ⟨ls, h1, h2⟩ := txs_of (n := n) (xs := [x, y, z]) fun u hu => by
      simp only [List.mem_cons, List.not_mem_nil, or_false] at hu
      rcases hu with rfl | rfl | rfl
      · exact ih1
      · exact ih2
      · exact ih3
    exact ⟨_, .call n "if" [x, y, z] ls (by show (("if" : Str), 3) ∈ callk; decide) h1 h2⟩
  | agg n o t ys h0 h1 h2 _ ih =>
    obtain ⟨ls, g1, g2⟩ := txs_of (n := n) (xs := ys) ih
    exact ⟨_, .agg n o t ys ls h0 h1 (g t h2) g1 g2⟩
/-- its size at most -/
def szX : Nat → Nat
  | 0 => 0
  | n + 1 => 12 + 3 * szX n
theorem szs_le {m : Nat} : ∀ {ds : List PyData}, (∀ d, d ∈ ds → sz d ≤ m) → szs ds ≤ ds.length * m
  | [], _ => by rw [szs]; omega
  | d :: ds, h => by
    have h1 := h d List.mem_cons_self
    have h2 := szs_le fun x hx => h x (List.mem_cons_of_mem _ hx)
    rw [szs, List.length_cons, Nat.add_mul]
    omega
theorem sz_row (t : Str) : sz (rowX t) = 6 := by simp only [rowX, sz, szs]
theorem Ex.sz {zs : List Str} {n : Nat} {x : PyData} (h : Ex zs n x) : sz x ≤ szX n := by
  induction h with
  | leaf n x h => cases h <;> simp only [K7.sz, szs, szX] <;> omega
  | cell n t v x h1 h2 _ ih => simp only [K7.sz, szs, szX]; omega
  | op n o x y h1 _ _ ih1 ih2 => simp only [K7.sz, szs, szX]; omega
  | iff n x y z _ _ _ ih1 ih2 ih3 => simp only [K7.sz, szs, szX]; omega
  | agg n o t ys h0 h1 h2 _ ih =>
    have := szs_le ih
    have hl : ys.length ≤ 3 := by
      simp only [aggs, List.mem_cons, List.not_mem_nil, or_false, Prod.mk.injEq] at h1
      omega
    have := Nat.mul_le_mul_right (szX n) hl
    have := sz_row t
    simp only [K7.sz, szs, szX]
    omega
theorem szX7 : szX 7 = 13116 := by decide
end K7

/-! the pairs by hand: each expression and its text -/
namespace K7
open PySem PySem.Spec PyProof.Rows L2 GR AD RZ WX ZE TX RVT
open SX (S S_cat S_len S_inj)
theorem num_7 : num (-7) = [45, 55] := S_inj ((str_num (-7)).symm.trans (by decide +kernel))
theorem num_0 : num 0 = [48] := S_inj ((str_num 0).symm.trans (by decide +kernel))
theorem zt {n : Nat} {d : PyData} {l : List Nat} {r : List (PyData × List Nat)} (h : Tx n d l) (t : ∀ p, p ∈ r → Tx n p.1 p.2) : ∀ p, p ∈ (d, l) :: r → Tx n p.1 p.2 := fun p hp => by
  rcases List.mem_cons.mp hp with rfl | hp
  · exact h
  · exact t p hp
theorem zn {n : Nat} : ∀ p, p ∈ ([] : List (PyData × List Nat)) → Tx n p.1 p.2 := fun p hp => nomatch hp
theorem t_one (n : Nat) : Tx (n + 1) oneD [45, 55] := num_7 ▸ Tx.int n (-7) (by decide) (by decide)
theorem t_zero (n : Nat) : Tx (n + 1) (iD 0) [48] := num_0 ▸ Tx.int n 0 (by decide) (by decide)
theorem t_key (n : Nat) : Tx (n + 1) keyD (wd "key") := .key n
theorem t_x (n : Nat) : Tx (n + 1) xD (wd "x") := .var n "x" (nm_lit (by decide +kernel))
theorem t_op {o : Str} {x y : PyData} {l m : List Nat} (h : o ∈ ops5) (a : Tx 29 x l) (b : Tx 29 y m) : Tx 30 (opD o x y) (40 :: (l ++ (32 :: (wd o ++ (32 :: (m ++ [41])))))) := .op 29 o x y l m h a b
theorem nm_t : Nm "t" := nm_lit (by decide +kernel)
theorem t_agg {o : Str} {xs : List PyData} (ls : List (List Nat)) (h : (o, xs.length) ∈ aggn) (e : ls.length = xs.length) (a : ∀ p, p ∈ xs.zip ls → Tx 29 p.1 p.2) : Tx 30 (aggD o xs) (wd o ++ (40 :: (wd "t" ++ (44 :: 32 :: (commas ls ++ [41]))))) := .agg 29 o "t" xs ls (by decide) h nm_t e a
/-- what the loop over the pairs asks of each -/
def Hp1 (p : PyData) : Prop := ∃ (d : PyData) (l : List Nat), p = prD d (S l) ∧ Gx d l
theorem hp_of {d : PyData} {z : Str} {l : List Nat} (t : Tx 30 d l) (hs : sz d ≤ 20000) (e : S l = z) : Hp1 (prD d z) := ⟨d, l, by rw [e], t, hs⟩
theorem all_cons {P : PyData → Prop} {a : PyData} {r : List PyData} (h : P a) (t : ∀ p, p ∈ r → P p) : ∀ p, p ∈ a :: r → P p := fun p hp => by
  rcases List.mem_cons.mp hp with rfl | hp
  · exact h
  · exact t p hp
theorem all_nil {P : PyData → Prop} : ∀ p, p ∈ ([] : List PyData) → P p := fun p hp => nomatch hp
theorem hand_ok : ∀ p, p ∈ handD → Hp1 p := by
  unfold handD
  show ∀ p, p ∈ [_, _, _, _, _, _, _, _, _, _, _, _, _, _, _, _, _, _, _] → Hp1 p
  refine all_cons (hp_of (t_one 29) (by decide) (by decide +kernel)) ?_
  refine all_cons (hp_of (t_zero 29) (by decide) (by decide +kernel)) ?_
  refine all_cons (hp_of (t_key 29) (by decide) (by decide +kernel)) ?_
  refine all_cons (hp_of (t_x 29) (by decide) (by decide +kernel)) ?_
  refine all_cons (hp_of (.cell 29 "t" "a" _ _ nm_t (nm_lit (by decide +kernel)) (t_key 28)) (by decide) (by decide +kernel)) ?_
  refine all_cons (hp_of (t_op (by decide) (t_x 28) (t_one 28)) (by decide) (by decide +kernel)) ?_
  refine all_cons (hp_of (t_op (by decide) (t_x 28) (t_one 28)) (by decide) (by decide +kernel)) ?_
  refine all_cons (hp_of (t_op (by decide) (t_x 28) (t_key 28)) (by decide) (by decide +kernel)) ?_
  refine all_cons (hp_of (t_op (by decide) (t_x 28) (t_x 28)) (by decide) (by decide +kernel)) ?_
  refine all_cons (hp_of (t_op (by decide) (t_one 28) (t_x 28)) (by decide) (by decide +kernel)) ?_
  refine all_cons (hp_of (.call 29 "if" [xD, oneD, keyD] [wd "x", [45, 55], wd "key"] (by show (("if" : Str), 3) ∈ callk; decide) rfl (zt (t_x 28) (zt (t_one 28) (zt (t_key 28) zn)))) (by decide) (by decide +kernel)) ?_
  refine all_cons (hp_of (.call 29 "at" [xD, keyD] [wd "x", wd "key"] (by show (("at" : Str), 2) ∈ callk; decide) rfl (zt (t_x 28) (zt (t_key 28) zn))) (by decide) (by decide +kernel)) ?_
  refine all_cons (hp_of (t_agg (xs := [keyD]) [wd "key"] (by show (("count" : Str), 1) ∈ aggn; decide) rfl (zt (t_key 28) zn)) (by decide) (by decide +kernel)) ?_
  refine all_cons (hp_of (t_agg (xs := [xD, keyD]) [wd "x", wd "key"] (by show (("sum" : Str), 2) ∈ aggn; decide) rfl (zt (t_x 28) (zt (t_key 28) zn))) (by decide) (by decide +kernel)) ?_
  refine all_cons (hp_of (t_agg (xs := [xD, keyD, oneD]) [wd "x", wd "key", [45, 55]] (by show (("most" : Str), 3) ∈ aggn; decide) rfl (zt (t_x 28) (zt (t_key 28) (zt (t_one 28) zn)))) (by decide) (by decide +kernel)) ?_
  refine all_cons (hp_of (.cell 29 "sums" "atone" _ _ (nm_lit (by decide +kernel)) (nm_lit (by decide +kernel)) (.var 28 "iff" (nm_lit (by decide +kernel)))) (by decide) (by decide +kernel)) ?_
  refine all_cons (hp_of (.var 29 "counts" (nm_lit (by decide +kernel))) (by decide) (by decide +kernel)) ?_
  refine all_cons (hp_of (t_agg (xs := [xD, oneD]) [wd "x", [45, 55]] (by show (("first" : Str), 2) ∈ aggn; decide) rfl (zt (t_x 28) (zt (t_one 28) zn))) (by decide) (by decide +kernel)) ?_
  refine all_cons (hp_of (.var 29 "keys" (nm_lit (by decide +kernel))) (by decide) (by decide +kernel)) all_nil
end K7

/-! the chain of the law: what is nested thirty deep -/
namespace K7
open PySem PySem.Spec PyProof.Rows L2 GR AD RZ WX ZE TX RVT
open SX (S S_cat S_len S_inj)
/-- after n steps -/
def Ln (n : Nat) (x : PyData) : Prop := (∃ l, Tx (n + 1) x l) ∧ sz x ≤ 3 + 10 * n
theorem nm_in : Nm "in" := nm_lit (by decide +kernel)
theorem ln_key : Ln 0 (.tuple [.str "key"]) := ⟨⟨_, .key 0⟩, by decide⟩
theorem ln_int : Ln 0 (.tuple [.str "int", .int (10 ^ 18)]) := ⟨⟨_, .int 0 (10 ^ 18) (by decide) (by decide)⟩, by decide⟩
theorem ln_var : Ln 0 (.tuple [.str "var", .str "in"]) := ⟨⟨_, .var 0 "in" nm_in⟩, by decide⟩
theorem ln_add {n : Nat} {x : PyData} (h : Ln n x) {k : Int} (h0 : 0 ≤ k) (h1 : k ≤ 1000) : Ln (n + 1) (.tuple [.str "+", x, .tuple [.str "int", .int k]]) := by
  obtain ⟨⟨l, hl⟩, hs⟩ := h
  refine ⟨⟨_, .op (n + 1) "+" x _ l _ (by decide) hl (.int n k (by omega) (by omega))⟩, ?_⟩
  simp only [sz, szs]
  omega
theorem ln_eq {n : Nat} {x : PyData} (h : Ln n x) : Ln (n + 1) (.tuple [.str "=", .tuple [.str "key"], x]) := by
  obtain ⟨⟨l, hl⟩, hs⟩ := h
  refine ⟨⟨_, .op (n + 1) "=" _ x _ l (by decide) (.key n) hl⟩, ?_⟩
  simp only [sz, szs]
  omega
theorem ln_cell {n : Nat} {x : PyData} (h : Ln n x) : Ln (n + 1) (.tuple [.str "cell", .str "t", x, .str "in"]) := by
  obtain ⟨⟨l, hl⟩, hs⟩ := h
  refine ⟨⟨_, .cell (n + 1) "t" "in" x l nm_t nm_in hl⟩, ?_⟩
  simp only [sz, szs]
  omega
theorem ln_at {n : Nat} {x : PyData} (h : Ln n x) : Ln (n + 1) (.tuple [.str "at", x, .tuple [.str "key"]]) := by
  obtain ⟨⟨l, hl⟩, hs⟩ := h
  refine ⟨⟨_, .call (n + 1) "at" [x, .tuple [.str "key"]] [l, wd "key"] (by show (("at" : Str), 2) ∈ callk; decide) rfl (zt hl (zt (.key n) zn))⟩, ?_⟩
  simp only [sz, szs]
  omega
theorem ln_gx {x : PyData} (h : Ln 29 x) : ∃ l, Gx x l := by
  obtain ⟨⟨l, hl⟩, hs⟩ := h
  exact ⟨l, hl, by omega⟩
theorem ex_gx {zs : List Str} (g : ∀ z, z ∈ zs → Nm z) {x : PyData} (h : Ex zs 7 x) : ∃ l, Gx x l := by
  obtain ⟨l, hl⟩ := h.tx g
  have h1 := h.sz
  have h2 := szX7
  exact ⟨l, hl.mono (by decide), by omega⟩
theorem dr5 : dr 5 = 108860 := by decide
end K7

set_option maxHeartbeats 8000000
/-! the law -/
namespace K7
open PySem PySem.Spec PyProof.Rows L2 GR AD RZ WX ZE TX RVT
open SX (S S_cat S_len S_inj)
section
variable {P : Program} {w : World} {K : PySem.W.Frag} {mg : Str → Option Value} {base : Heap}
abbrev s_law : Stmt := topS 45
theorem sc_law : FnScope ["_law_script", "_law_deck_here", "_law_turn", "_law_thing", "_law_wording", "_law_deep", "_law_k", "_law_some", "_law_read"] ["_law_script"] (defScope s_law) := ⟨rfl, rfl, rfl, by decide +kernel, rfl, by decide +kernel, by decide +kernel⟩
def sp_law (K : PySem.W.Frag) : Sp := fun vs H Q _ => ∃ (a : Addr) (ns : List Int), vs = [.ref a] ∧ SqL K H a (ns.map V.int) ∧ ∀ H', Q (.bl true) H'
theorem scal_str {a : Str} : scal (V.str a) (V.str a) = true := rfl
theorem ok_law {f f_right : Addr} {fd d_right : FuncData} {k : Nat} (F : Fun K "law" "law" s_law f fd)
    (X_deck : DF P w K mg base "_law_deck" ["_law_script"] (sp_deck K) k) (X_world : DF P w K mg base "_law_world" ["_law_deck_here"] sp_world k) (X_term : DF P w K mg base "_law_term" ps_term (sp_term K 5) k)
    (X_hand : DF P w K mg base "_law_by_hand" [] (sp_hand K) k) (X_pick : DF P w K mg base "_law_pick" ["_law_deck_here", "_law_some"] (sp_pick K) k)
    (X_lt : DF P w K mg base "_law_written" ["_law_thing"] (sp_ltext K 30) k) (X_show : DF P w K mg base "show_expression" ["expression"] (sp_show K) k) (X_read : DF P w K mg base "read_expression" ["thing"] (sp_rex K 30) k)
    (G_right : FnG P w K mg base CX0 k f_right d_right ["_law_thing"] (sp_right K)) (g_right : mg "_law_right" = some (.ref f_right)) (K_right : PySem.W.keepIn K (.ref f_right) = true) (b_right : Binds K d_right ["_law_thing"] [])
    (mrange : mg "range" = none) (mrepr : mg "repr" = none) : FnG P w K mg base CX0 (k + 1) f fd ["_law_script"] (sp_law K) := by
  have nd := sc_law.nd
  obtain ⟨f1, d1, G_deck, g_deck, K_deck, b_deck⟩ := X_deck
  obtain ⟨f2, d2, G_world, g_world, K_world, b_world⟩ := X_world
  obtain ⟨f3, d3, G_term, g_term, K_term, b_term⟩ := X_term
  obtain ⟨f4, d4, G_hand, g_hand, K_hand, b_hand⟩ := X_hand
  obtain ⟨f5, d5, G_pick, g_pick, K_pick, b_pick⟩ := X_pick
  obtain ⟨f6, d6, G_lt, g_lt, K_lt, b_lt⟩ := X_lt
  obtain ⟨f7, d7, G_show, g_show, K_show, b_show⟩ := X_show
  obtain ⟨f8, d8, G_read, g_read, K_read, b_read⟩ := X_read
  refine ok_g F sc_law (fun vs H Q E h => ?_) (fun cdv A outer s H vs Q E hg hr h => ?_)
  · obtain ⟨a, ns, rfl, _⟩ := h
    rfl
  obtain ⟨a, ns, rfl, hS, q⟩ := h
  have hu0 := hr.units0
  refine ⟨_, (pss_cons (ps_set (i := 1) nd rfl (.inl rfl) (pe_call G_deck hr (by rfl) g_deck K_deck b_deck .nil pass0 (pa_cons (pv 0) pa_nil)))
      (Evl.pss_cut (ps_for PassesOwn.never rfl (pi_range1 rfl mrange (pa_cons pe_int pa_nil)) (pg_name (i := 2) nd rfl (Or.inl rfl))
      (pss_one (ps_if (pt_not (pt_val (pe_callG G_right hg hr (by rfl) g_right K_right b_right pass0 (pa_cons (pe_call G_term hr (by rfl) g_term K_term b_term .nil pass0 (pa_cons (pv 1) (pa_cons (pe_call G_world hr (by rfl) g_world K_world b_world .nil pass0 (pa_cons (pv 1) pa_nil)) (pa_cons pe_int (pa_cons pe_int pa_nil))))) pa_nil))))
        (pss_one (ps_ret pe_bl))
        pss_nil)))
      (Evl.pss_cut (ps_for PassesOwn.never rfl (pi_list (pe_call0 G_hand hr (by rfl) g_hand K_hand b_hand .nil pass0)) (pg_tup rfl (pgs_cons (pg_name (i := 3) nd rfl (Or.inl rfl)) (pgs_cons (pg_name (i := 4) nd rfl (Or.inl rfl)) pgs_nil)))
      (pss_one (ps_if (PW.pt (pw_or (pt_cmpR op_ne (pe_call G_show hr (by rfl) g_show K_show b_show .nil pass0 (pa_cons (pv 3) pa_nil)) (pv 4) (nomark _)) (pw_or1 (pt_cmpR op_ne (pe_callB (call_reprA hg hr) (by rfl) mrepr boot_repr (pa_cons (pe_call G_read hr (by rfl) g_read K_read b_read .nil pass0 (pa_cons (pv 4) pa_nil)) pa_nil)) (pe_callB (call_reprA hg hr) (by rfl) mrepr boot_repr (pa_cons (pv 3) pa_nil)) (nomark _)))))
        (pss_one (ps_ret pe_bl))
        pss_nil)))
      (Evl.pss_cut (ps_set (i := 5) nd rfl (.inl rfl) (pe_call G_pick hr (by rfl) g_pick K_pick b_pick .nil pass0 (pa_cons (pv 1) (pa_cons (pe_lst (pa_cons (pe_tup (pa_cons pe_str pa_nil)) (pa_cons (pe_tup (pa_cons pe_str (pa_cons (pe_op op_pow pe_int pe_int) pa_nil))) (pa_cons (pe_tup (pa_cons pe_str (pa_cons pe_str pa_nil))) pa_nil)))) pa_nil))))
      (Evl.pss_cut (ps_for PassesOwn.never rfl (pi_range1 rfl mrange (pa_cons pe_int pa_nil)) (pg_name (i := 6) nd rfl (Or.inl rfl))
      (pss_cons (ps_set (i := 7) nd rfl (.inl rfl) (pe_lst (pa_cons (pe_tup (pa_cons pe_str (pa_cons (pv 5) (pa_cons (pe_tup (pa_cons pe_str (pa_cons (pv 6) pa_nil))) pa_nil)))) (pa_cons (pe_tup (pa_cons pe_str (pa_cons (pe_tup (pa_cons pe_str pa_nil)) (pa_cons (pv 5) pa_nil)))) (pa_cons (pe_tup (pa_cons pe_str (pa_cons pe_str (pa_cons (pv 5) (pa_cons pe_str pa_nil))))) (pa_cons (pe_tup (pa_cons pe_str (pa_cons (pv 5) (pa_cons (pe_tup (pa_cons pe_str pa_nil)) pa_nil)))) pa_nil))))))
        (pss_one (ps_set (i := 5) nd rfl (.inl rfl) (pe_call G_pick hr (by rfl) g_pick K_pick b_pick .nil pass0 (pa_cons (pv 1) (pa_cons (pv 7) pa_nil)))))))
      (pss_cons (ps_set (i := 8) nd rfl (.inl rfl) (pe_call G_read hr (by rfl) g_read K_read b_read .nil pass0 (pa_cons (pe_call G_lt hr (by rfl) g_lt K_lt b_lt .nil pass0 (pa_cons (pv 5) pa_nil)) pa_nil)))
      (pss_one (ps_ret (pe_and (pe_cmpR op_eq (pe_callB (call_reprA hg hr) (by rfl) mrepr boot_repr (pa_cons (pv 8) pa_nil)) (pe_callB (call_reprA hg hr) (by rfl) mrepr boot_repr (pa_cons (pv 5) pa_nil)) (nomark _)) (pe_one (pe_callG G_right hg hr (by rfl) g_right K_right b_right pass0 (pa_cons (pv 8) pa_nil)))))))))))), ?_⟩
  refine ⟨.ref a, rfl, a, ns, rfl, hS, fun H1 d c s1 n1 D1 => ?_⟩
  refine ⟨fun σ' H' => ∃ (y2 : Option V), σ' = [some (.ref a), some (.ref d), y2, none, none, none, none, none, none] ∧ Deck H' d c 1600000, ?_, ?_⟩
  · refine ⟨8, rfl, by decide, by decide, ?_⟩
    refine for_range (n := 8) (fun i σ H' => ∃ (y2 : Option V), σ = [some (.ref a), some (.ref d), y2, none, none, none, none, none, none] ∧ Deck H' d c (200000 * (i : Int))) ?_ ?_ ?_
    · exact ⟨none, rfl, D1.mono (by omega)⟩
    · rintro i σ H3 hi ⟨y2, rfl, D3⟩
      refine ⟨.ref d, rfl, .ref d, rfl, d, c, _, rfl, D3, by omega, fun H4 u nl zs k4 D4 nu nnl W4 => ?_⟩
      refine ⟨d, c, u, nl, _, 5, 0, zs, rfl, D4, ?_, W4, by decide, fun H5 v x k5 D5 W5 he hp => ?_⟩
      · rw [dr5]; omega
      obtain ⟨l, hG⟩ := ex_gx W4.all he
      refine ⟨v, x, l, rfl, dd_of x v hG.tx.flat hp, hG, fun H6 s6 => ?_⟩
      have D6 := (D5.same s6).mono (show _ ≤ 200000 * ((i + 1 : Nat) : Int) by rw [dr5]; omega)
      exact ⟨_, rfl, iteF ⟨_, rfl, D6⟩⟩
    · rintro σ H3 ⟨y2, rfl, D3⟩
      exact ⟨y2, rfl, D3.mono (by decide)⟩
  rintro σ1 H2 ⟨y2, rfl, D2⟩
  refine ⟨fun σ' H' => ∃ (y2 y3 y4 : Option V), σ' = [some (.ref a), some (.ref d), y2, y3, y4, none, none, none, none] ∧ Deck H' d c 1600000, ?_, ?_⟩
  · refine ⟨rfl, fun H3 L us s3 hL hA => ?_⟩
    have D3 := D2.same s3
    refine ⟨L, rfl, ⟨us, .inl (.inl hL)⟩, ?_⟩
    refine for_list (xs := us) (fun i σ H' => ∃ (y3 y4 : Option V), σ = [some (.ref a), some (.ref d), y2, y3, y4, none, none, none, none] ∧ Same H3 H') ?_ ?_ ?_ ?_
    · exact ⟨none, none, rfl, fun _ _ e => e⟩
    · rintro i σ H' _ ⟨_, _, rfl, s4⟩
      exact .inl (.inl (s4 _ _ hL))
    · rintro i x σ H4 hx ⟨y3, y4, rfl, s4⟩
      obtain ⟨p, hp, hpv⟩ := dd_at (hA.keep (KeepO.of s4)) hx
      obtain ⟨dd, l, rfl, hG⟩ := hand_ok p (List.mem_of_getElem? hp)
      obtain ⟨t, xs, rfl, hS4, hA4⟩ := K7.Dd.tup_inv hpv
      rcases hA4 with _ | ⟨g0, hA4⟩; rcases hA4 with _ | ⟨g1, hA4⟩; cases hA4
      cases g1
      have hsz : sz dd ≤ 100000 := Nat.le_trans hG.sz (by decide)
      have hll : l.length ≤ 8000000 := Nat.le_trans hG.len (by decide)
      refine ⟨t, _, rfl, hS4, rfl, _, _, rfl, _, _, rfl, rfl, ?_⟩
      refine ⟨_, rfl, _, 30, dd, l, rfl, g0, hG.tx, hsz, fun H5 s5 => ⟨_, rfl, ?_⟩⟩
      have g1 := g0.keep (KeepO.of s5)
      have neF : (!decide (V.str (S l) = V.str (S l))) = false := by rw [decide_eq_true rfl]; rfl
      refine ⟨scal_str, _, rfl, ?_⟩
      rw [neF]
      refine iteF ⟨.str (S l), rfl, l, dd, rfl, hll, hG.tx, fun H6 v6 s6 hv6 => ⟨v6, dd, F0, rfl, (fun _ h => h.elim), hv6, hG.shw, _, rfl, _, dd, F0, rfl, (fun _ h => h.elim), g1.keep (KeepO.of s6), hG.shw, ?_⟩⟩
      have neD : (!decide (V.str dd.shown = V.str dd.shown)) = false := by rw [decide_eq_true rfl]; rfl
      refine ⟨scal_str, _, rfl, ?_⟩
      rw [neD]
      exact iteF ⟨_, _, rfl, (s4.trans s5).trans s6⟩
    · rintro σ H4 ⟨y3, y4, rfl, s4⟩
      exact ⟨y2, y3, y4, rfl, D3.same s4⟩
  rintro σ3 H3 ⟨y2, y3, y4, rfl, D3⟩
  refine ⟨fun σ' H' => ∃ (v : V) (x : PyData), σ' = [some (.ref a), some (.ref d), y2, y3, y4, some v, none, none, none] ∧ Deck H' d c 1700000 ∧ Dd K F0 H' v x ∧ Ln 0 x, ?_, ?_⟩
  · refine ⟨.ref d, rfl, small_le (show 1 ≤ 1000 by decide), fun p1 m1 => ⟨10, 18, rfl, rfl, ⟨by decide, by decide, by decide⟩, le2, fun p2 m2 => ⟨le2, fun p3 m3 => ⟨small_le (show 3 ≤ 1000 by decide), fun L mL => ?_⟩⟩⟩⟩
    have a1 := same_upd (o := .tup [.str "key"]) m1
    have a2 := same_upd (o := .tup [.str "int", .int (10 ^ 18)]) m2
    have a3 := same_upd (o := .tup [.str "var", .str "in"]) m3
    have aL := same_upd (o := .lst [.ref p1, .ref p2, .ref p3]) mL
    have s3 := a1.trans (a2.trans (a3.trans aL))
    have hL := ((D3.same (a1.trans (a2.trans a3))).new mL)
    refine .inl ⟨d, c, L, 1600000, [.ref p1, .ref p2, .ref p3], rfl, D3.same s3, by decide, .inl (.inl upd_same), List.cons_ne_nil _ _, (show 3 ≤ 1000 by decide), hL.1, hL.2, fun H5 v k5 D5 hv => ?_⟩
    have d1 := (show Dd K F0 _ (.ref p1) (.tuple [.str "key"]) from .tup (.inl (.inl (aL _ _ (a3 _ _ (a2 _ _ upd_same))))) (.cons (.str _) .nil)).keep (kf0 (k5.t (D3.same s3)))
    have d2 := (show Dd K F0 _ (.ref p2) (.tuple [.str "int", .int (10 ^ 18)]) from .tup (.inl (.inl (aL _ _ (a3 _ _ upd_same)))) (.cons (.str _) (.cons (.int _) .nil))).keep (kf0 (k5.t (D3.same s3)))
    have d3 := (show Dd K F0 _ (.ref p3) (.tuple [.str "var", .str "in"]) from .tup (.inl (.inl (aL _ _ upd_same))) (.cons (.str _) (.cons (.str _) .nil))).keep (kf0 (k5.t (D3.same s3)))
    have D5' := D5.mono (show _ ≤ (1700000 : Int) by decide)
    simp only [List.mem_cons, List.not_mem_nil, or_false] at hv
    rcases hv with rfl | rfl | rfl
    · exact ⟨_, _, rfl, D5', d1, ln_key⟩
    · exact ⟨_, _, rfl, D5', d2, ln_int⟩
    · exact ⟨_, _, rfl, D5', d3, ln_var⟩
  rintro σ4 H4 ⟨v, x, rfl, D4, hx, hl⟩
  refine ⟨fun σ' H' => ∃ (y6 y7 : Option V) (v : V) (x : PyData), σ' = [some (.ref a), some (.ref d), y2, y3, y4, some v, y6, y7, none] ∧ Dd K F0 H' v x ∧ Ln 29 x, ?_, ?_⟩
  · refine ⟨29, rfl, by decide, by decide, ?_⟩
    refine for_range (n := 29) (fun i σ H' => ∃ (y6 y7 : Option V) (v : V) (x : PyData), σ = [some (.ref a), some (.ref d), y2, y3, y4, some v, y6, y7, none] ∧ Deck H' d c (1700000 + 10 * (i : Int)) ∧ Dd K F0 H' v x ∧ Ln i x) ?_ ?_ ?_
    · exact ⟨none, none, v, x, rfl, D4.mono (by omega), hx, hl⟩
    · rintro i σ H5 hi ⟨y6, y7, v, x, rfl, D5, hx, hl⟩
      refine ⟨v, rfl, .int (0 + (i : Int)), rfl, le2, fun p1 m1 => ⟨small_le (show 3 ≤ 1000 by decide), fun p2 m2 => ⟨small_le (show 1 ≤ 1000 by decide), fun p3 m3 => ⟨v, rfl, small_le (show 3 ≤ 1000 by decide), fun p4 m4 => ⟨v, rfl, small_le (show 4 ≤ 1000 by decide), fun p5 m5 => ⟨v, rfl, small_le (show 1 ≤ 1000 by decide), fun p6 m6 => ⟨small_le (show 3 ≤ 1000 by decide), fun p7 m7 => ⟨small_le (show 4 ≤ 1000 by decide), fun L mL => ?_⟩⟩⟩⟩⟩⟩⟩⟩
      have a1 := same_upd (o := .tup [.str "int", .int (0 + (i : Int))]) m1
      have a2 := same_upd (o := .tup [.str "+", v, .ref p1]) m2
      have a3 := same_upd (o := .tup [.str "key"]) m3
      have a4 := same_upd (o := .tup [.str "=", .ref p3, v]) m4
      have a5 := same_upd (o := .tup [.str "cell", .str "t", v, .str "in"]) m5
      have a6 := same_upd (o := .tup [.str "key"]) m6
      have a7 := same_upd (o := .tup [.str "at", v, .ref p6]) m7
      have aL := same_upd (o := .lst [.ref p2, .ref p4, .ref p5, .ref p7]) mL
      have b7 := a7.trans aL
      have b6 := a6.trans b7
      have b5 := a5.trans b6
      have b4 := a4.trans b5
      have b3 := a3.trans b4
      have b2 := a2.trans b3
      have b1 := a1.trans b2
      have hL := (D5.same (a1.trans (a2.trans (a3.trans (a4.trans (a5.trans (a6.trans a7))))))).new mL
      have hxk := hx.keep (KeepO.of b1)
      have i1 := (show Dd K F0 _ (.ref p1) (.tuple [.str "int", .int (0 + (i : Int))]) from .tup (.inl (.inl (b2 _ _ upd_same))) (.cons (.str _) (.cons (.int _) .nil)))
      have i3 := (show Dd K F0 _ (.ref p3) (.tuple [.str "key"]) from .tup (.inl (.inl (b4 _ _ upd_same))) (.cons (.str _) .nil))
      have i6 := (show Dd K F0 _ (.ref p6) (.tuple [.str "key"]) from .tup (.inl (.inl (b7 _ _ upd_same))) (.cons (.str _) .nil))
      have c2 := (show Dd K F0 _ (.ref p2) (.tuple [.str "+", x, .tuple [.str "int", .int (0 + (i : Int))]]) from .tup (.inl (.inl (b3 _ _ upd_same))) (.cons (.str _) (.cons hxk (.cons i1 .nil))))
      have c4 := (show Dd K F0 _ (.ref p4) (.tuple [.str "=", .tuple [.str "key"], x]) from .tup (.inl (.inl (b5 _ _ upd_same))) (.cons (.str _) (.cons i3 (.cons hxk .nil))))
      have c5 := (show Dd K F0 _ (.ref p5) (.tuple [.str "cell", .str "t", x, .str "in"]) from .tup (.inl (.inl (b6 _ _ upd_same))) (.cons (.str _) (.cons (.str _) (.cons hxk (.cons (.str _) .nil)))))
      have c7 := (show Dd K F0 _ (.ref p7) (.tuple [.str "at", x, .tuple [.str "key"]]) from .tup (.inl (.inl (aL _ _ upd_same))) (.cons (.str _) (.cons hxk (.cons i6 .nil))))
      refine ⟨.ref d, rfl, .ref L, rfl, .inl ⟨d, c, L, 1700000 + 10 * (i : Int), [.ref p2, .ref p4, .ref p5, .ref p7], rfl, D5.same b1, by omega, .inl (.inl upd_same), List.cons_ne_nil _ _, (show 4 ≤ 1000 by decide), hL.1, hL.2, fun H6 w k6 D6 hw => ?_⟩⟩
      have kk := kf0 (k6.t (D5.same b1))
      have D6' := D6.mono (show _ ≤ 1700000 + 10 * ((i + 1 : Nat) : Int) by omega)
      simp only [List.mem_cons, List.not_mem_nil, or_false] at hw
      rcases hw with rfl | rfl | rfl | rfl
      · exact ⟨_, _, _, _, rfl, D6', c2.keep kk, ln_add hl (by omega) (by omega)⟩
      · exact ⟨_, _, _, _, rfl, D6', c4.keep kk, ln_eq hl⟩
      · exact ⟨_, _, _, _, rfl, D6', c5.keep kk, ln_cell hl⟩
      · exact ⟨_, _, _, _, rfl, D6', c7.keep kk, ln_at hl⟩
    · rintro σ H5 ⟨y6, y7, v, x, rfl, D5, hx, hl⟩
      exact ⟨y6, y7, v, x, rfl, hx, hl⟩
  rintro σ5 H5 ⟨y6, y7, v, x, rfl, hx, hl⟩
  obtain ⟨l, hG⟩ := ln_gx hl
  have hsz : sz x ≤ 100000 := Nat.le_trans hG.sz (by decide)
  have hll : l.length ≤ 8000000 := Nat.le_trans hG.len (by decide)
  refine ⟨v, rfl, v, x, l, rfl, hx, hG.tx, hsz, fun H6 s6 => ⟨l, x, rfl, hll, hG.tx, fun H7 v7 s7 hv7 => ?_⟩⟩
  refine ⟨v7, rfl, v7, x, F0, rfl, (fun _ h => h.elim), hv7, hG.shw, v, rfl, v, x, F0, rfl, (fun _ h => h.elim), hx.keep (KeepO.of (s6.trans s7)), hG.shw, rfl, _, rfl, ?_⟩
  rw [decide_eq_true (show V.str x.shown = V.str x.shown from rfl)]
  exact iteT ⟨v7, rfl, v7, x, l, rfl, hv7, hG, fun H8 s8 => q _⟩
end
end K7

/-! the terms, by the depth; rows_of -/
namespace K7
open PySem PySem.Spec PyProof.Rows L2 GR AD RZ WX ZE TX RVT
section
variable {P : Program} {w : World} {K : PySem.W.Frag} {mg : Str → Option Value} {base : Heap}
theorem ok_none {k : Nat} {f : Addr} {fd : FuncData} {ps : List Str} {sp : Sp} (h : ∀ vs H Q E, ¬ sp vs H Q E) : FnOk P w K mg base CX0 k f fd ps sp :=
  ⟨fun vs H Q E q => absurd q (h vs H Q E), fun A outer s H args us vs Q E hr he hb hv hs => absurd hs (h vs H Q E)⟩
/-- terms of each depth, two levels a depth -/
theorem ok_terms {f f_law_draw f_law_pick f_law_leaf f_law_rows : Addr} {fd fd_law_draw fd_law_pick fd_law_leaf fd_law_rows : FuncData} {k : Nat} (F : Fun K "_law_term" "_law_term" s_law_term f fd) (R : Fun K "_law_rows" "_law_rows" s_law_rows f_law_rows fd_law_rows)
    (G_law_draw : FnOk P w K mg base CX0 k f_law_draw fd_law_draw ["_law_deck_here", "_law_most"] sp_draw)
    (g_law_draw : mg "_law_draw" = some (.ref f_law_draw)) (K_law_draw : PySem.W.keepIn K (.ref f_law_draw) = true) (b_law_draw : Binds K fd_law_draw ["_law_deck_here", "_law_most"] [])
    (G_law_pick : FnOk P w K mg base CX0 k f_law_pick fd_law_pick ["_law_deck_here", "_law_some"] (sp_pick K))
    (g_law_pick : mg "_law_pick" = some (.ref f_law_pick)) (K_law_pick : PySem.W.keepIn K (.ref f_law_pick) = true) (b_law_pick : Binds K fd_law_pick ["_law_deck_here", "_law_some"] [])
    (G_law_leaf : FnOk P w K mg base CX0 k f_law_leaf fd_law_leaf ["_law_deck_here", "_law_world_here"] (sp_leaf K))
    (g_law_leaf : mg "_law_leaf" = some (.ref f_law_leaf)) (K_law_leaf : PySem.W.keepIn K (.ref f_law_leaf) = true) (b_law_leaf : Binds K fd_law_leaf ["_law_deck_here", "_law_world_here"] [])
    (g_law_rows : mg "_law_rows" = some (.ref f_law_rows)) (K_law_rows : PySem.W.keepIn K (.ref f_law_rows) = true) (b_law_rows : Binds K fd_law_rows ps_term [])
    (g_law_term : mg "_law_term" = some (.ref f)) (K_law_term : PySem.W.keepIn K (.ref f) = true) (b_law_term : Binds K fd ps_term [])
    (mrange : mg "range" = none) (mtuple : mg "tuple" = none) : ∀ n : Nat, FnOk P w K mg base CX0 (k + 2 * n + 1) f fd ps_term (sp_term K n)
  | 0 => ok_term_step F G_law_draw g_law_draw K_law_draw b_law_draw G_law_pick g_law_pick K_law_pick b_law_pick G_law_leaf g_law_leaf K_law_leaf b_law_leaf (ok_none fun vs H Q E ⟨n, h, _⟩ => by omega) g_law_rows K_law_rows b_law_rows (ok_none fun vs H Q E ⟨n, h, _⟩ => by omega) g_law_term K_law_term b_law_term
  | n + 1 => by
    have ih := ok_terms F R G_law_draw g_law_draw K_law_draw b_law_draw G_law_pick g_law_pick K_law_pick b_law_pick G_law_leaf g_law_leaf K_law_leaf b_law_leaf g_law_rows K_law_rows b_law_rows g_law_term K_law_term b_law_term mrange mtuple n
    have rw1 := ok_rows (n := n) R (G_law_draw.mono (show k ≤ k + 2 * n + 1 by omega)) g_law_draw K_law_draw b_law_draw (G_law_pick.mono (show k ≤ k + 2 * n + 1 by omega)) g_law_pick K_law_pick b_law_pick ih g_law_term K_law_term b_law_term mrange mtuple
    refine ok_term_step (k := k + 2 * n + 2) F (G_law_draw.mono (by omega)) g_law_draw K_law_draw b_law_draw (G_law_pick.mono (by omega)) g_law_pick K_law_pick b_law_pick (G_law_leaf.mono (by omega)) g_law_leaf K_law_leaf b_law_leaf (rw1.imp ?_) g_law_rows K_law_rows b_law_rows ((ih.mono (by omega)).imp ?_) g_law_term K_law_term b_law_term
    · rintro vs H Q E ⟨m, hm, h⟩
      obtain rfl : n = m := by omega
      exact h
    · rintro vs H Q E ⟨m, hm, h⟩
      obtain rfl : n = m := by omega
      exact h

abbrev s_rows_of : Stmt := topS 14
theorem sc_rows_of : FnScope ["table"] ["table"] (defScope s_rows_of) := ⟨rfl, rfl, rfl, by decide +kernel, rfl, by decide +kernel, by decide +kernel⟩
theorem ok_rows_of {f : Addr} {fd : FuncData} {k : Nat} (F : Fun K "rows_of" "rows_of" s_rows_of f fd) : FnOk P w K mg base CX0 (k + 1) f fd ["table"] (sp_rows_of K) := by
  have nd := sc_rows_of.nd
  refine F.ok sc_rows_of (fun vs H Q E h => ?_) (fun cdv A outer s H vs Q E hr h => ?_)
  · obtain ⟨t, rfl, _⟩ := h
    rfl
  obtain ⟨t, rfl, q⟩ := h
  refine ⟨_, (pss_one (ps_ret (pe_tup (pa_cons pe_str (pa_cons (pv 0) (pa_cons (pe_tup (pa_cons pe_str pa_nil)) (pa_cons pe_str pa_nil))))))), ?_⟩
  refine ⟨.str t, rfl, small_le (show 1 ≤ 1000 by decide), fun p np => ⟨small_le (show 4 ≤ 1000 by decide), fun r nr => ?_⟩⟩
  have s1 := same_upd (o := .tup [.str "key"]) np
  have s2 := same_upd (o := .tup [.str "cell", .str t, .ref p, .str "in"]) nr
  refine q _ _ (s1.trans s2) (.tup (.inl (.inl upd_same)) (.cons (.str _) (.cons (.str t) (.cons (.tup (.inl (.inl (s2 _ _ upd_same))) (.cons (.str _) .nil)) (.cons (.str _) .nil)))))
end
end K7

/-! is_integer, is_value, is_name -/
namespace K7
open PySem PySem.Spec PyProof.Rows L2 GR AD
def isI : PyData → Bool
  | .int _ => true
  | _ => false
def isTu : PyData → Bool
  | .tuple _ => true
  | _ => false
def isIB : PyData → Bool
  | .int _ => true
  | .bool _ => true
  | _ => false
def isB : PyData → Bool
  | .bool _ => true
  | _ => false
theorem kit_i (K : PySem.W.Frag) : ∀ d : PyData, PySem.W.kitOne K (.type (tyN d)) (.type "int") = some (isIB d)
  | .none => kit_ty (show kitB "NoneType" "int" = some false by decide +kernel)
  | .bool _ => kit_ty (show kitB "bool" "int" = some true by decide +kernel)
  | .int _ => kit_ty (show kitB "int" "int" = some true by decide +kernel)
  | .str _ => kit_ty (show kitB "str" "int" = some false by decide +kernel)
  | .list _ => kit_ty (show kitB "list" "int" = some false by decide +kernel)
  | .tuple _ => kit_ty (show kitB "tuple" "int" = some false by decide +kernel)
  | .dict _ => kit_ty (show kitB "dict" "int" = some false by decide +kernel)
theorem kit_b (K : PySem.W.Frag) : ∀ d : PyData, PySem.W.kitOne K (.type (tyN d)) (.type "bool") = some (isB d)
  | .none => kit_ty (show kitB "NoneType" "bool" = some false by decide +kernel)
  | .bool _ => kit_ty (show kitB "bool" "bool" = some true by decide +kernel)
  | .int _ => kit_ty (show kitB "int" "bool" = some false by decide +kernel)
  | .str _ => kit_ty (show kitB "str" "bool" = some false by decide +kernel)
  | .list _ => kit_ty (show kitB "list" "bool" = some false by decide +kernel)
  | .tuple _ => kit_ty (show kitB "tuple" "bool" = some false by decide +kernel)
  | .dict _ => kit_ty (show kitB "dict" "bool" = some false by decide +kernel)
theorem kit_t (K : PySem.W.Frag) : ∀ d : PyData, PySem.W.kitOne K (.type (tyN d)) (.type "tuple") = some (isTu d)
  | .none => kit_ty (show kitB "NoneType" "tuple" = some false by decide +kernel)
  | .bool _ => kit_ty (show kitB "bool" "tuple" = some false by decide +kernel)
  | .int _ => kit_ty (show kitB "int" "tuple" = some false by decide +kernel)
  | .str _ => kit_ty (show kitB "str" "tuple" = some false by decide +kernel)
  | .list _ => kit_ty (show kitB "list" "tuple" = some false by decide +kernel)
  | .tuple _ => kit_ty (show kitB "tuple" "tuple" = some true by decide +kernel)
  | .dict _ => kit_ty (show kitB "dict" "tuple" = some false by decide +kernel)
/-- a test whose answer is told -/
theorem iteB {c : Bool} {A B : Prop} (h1 : c = true → A) (h2 : c = false → B) : if c = true then A else B := by
  cases c with
  | true => exact iteT (h1 rfl)
  | false => exact iteF (h2 rfl)
section
variable {P : Program} {w : World} {K : PySem.W.Frag} {mg : Str → Option Value} {base : Heap}
abbrev s_is_integer : Stmt := topS 8
theorem sc_is_integer : FnScope ["thing"] ["thing"] (defScope s_is_integer) := ⟨rfl, rfl, rfl, by decide +kernel, rfl, by decide +kernel, by decide +kernel⟩
theorem ok_is_integer {f : Addr} {fd : FuncData} {k : Nat} (F : Fun K "is_integer" "is_integer" s_is_integer f fd) (misi : mg "isinstance" = none) (mint : mg "int" = none) (mbool : mg "bool" = none) : FnOk P w K mg base CX0 (k + 1) f fd ["thing"] (sp_is K isI) := by
  have nd := sc_is_integer.nd
  refine F.ok sc_is_integer (fun vs H Q E h => ?_) (fun cdv A outer s H vs Q E hr h => ?_)
  · obtain ⟨v, d, ok, rfl, _⟩ := h
    rfl
  obtain ⟨v, d, ok, rfl, hd, q⟩ := h
  refine ⟨_, (pss_one (ps_ret (pe_and (pe_callB call_isi (by rfl) misi boot_isinstance (pa_cons (pv 0) (pa_cons (pe_bltn (v := .ty "int") (by rfl) mint boot_int rfl) pa_nil))) (pe_one (pe_not (pe_callB call_isi (by rfl) misi boot_isinstance (pa_cons (pv 0) (pa_cons (pe_bltn (v := .ty "bool") (by rfl) mbool boot_bool rfl) pa_nil)))))))), ?_⟩
  refine ⟨v, rfl, v, .ty "int", _, _, _, rfl, .ty "int", hd.ty, kit_i K d, _, rfl, ?_⟩
  cases d with
  | int i => exact iteT ⟨v, rfl, v, .ty "bool", _, _, _, rfl, .ty "bool", hd.ty, kit_b K _, _, rfl, q⟩
  | bool b => exact iteT ⟨v, rfl, v, .ty "bool", _, _, _, rfl, .ty "bool", hd.ty, kit_b K _, _, rfl, q⟩
  | _ => exact iteF q
abbrev s_is_value : Stmt := topS 9
theorem sc_is_value : FnScope ["thing"] ["thing"] (defScope s_is_value) := ⟨rfl, rfl, rfl, by decide +kernel, rfl, by decide +kernel, by decide +kernel⟩
theorem ok_is_value {f fi : Addr} {fd di : FuncData} {k : Nat} {tl : Tok} (F : Fun K "is_value" "is_value" s_is_value f fd) (G : FnOk P w K mg base CX0 k fi di ["thing"] (sp_is K isI)) (g : mg "is_integer" = some (.ref fi)) (Kf : PySem.W.keepIn K (.ref fi) = true) (b : Binds K di ["thing"] []) (mLIMIT : mg "LIMIT" = some (.int LIM tl)) :
    FnOk P w K mg base CX0 (k + 1) f fd ["thing"] (sp_is K isV) := by
  have nd := sc_is_value.nd
  refine F.ok sc_is_value (fun vs H Q E h => ?_) (fun cdv A outer s H vs Q E hr h => ?_)
  · obtain ⟨v, d, ok, rfl, _⟩ := h
    rfl
  obtain ⟨v, d, ok, rfl, hd, q⟩ := h
  refine ⟨_, (pss_one (ps_ret (pe_and (pe_call G hr (by rfl) g Kf b .nil pass0 (pa_cons (pv 0) pa_nil)) (pe_one (pe_chain op_le op_le (pe_un un_neg (pe_glob (v := .int LIM) rfl mLIMIT ⟨_, rfl⟩)) (pv 0) (pe_glob (v := .int LIM) rfl mLIMIT ⟨_, rfl⟩)))))), ?_⟩
  refine ⟨v, rfl, v, d, ok, rfl, hd, _, rfl, ?_⟩
  cases hd with
  | int i =>
    replace q : Q (.bl (decide (-LIM ≤ i) && decide (i ≤ LIM))) H := q
    refine iteT ⟨LIM, rfl, .int i, rfl, -LIM, i, rfl, rfl, _, rfl, ?_⟩
    cases c : decide (-LIM ≤ i) with
    | true =>
      refine iteT ⟨i, LIM, rfl, rfl, ?_⟩
      rw [c, Bool.true_and] at q
      exact q
    | false =>
      rw [c, Bool.false_and] at q
      exact iteF q
  | _ => exact iteF q
/-! ### names -/
theorem mem26 (c : Nat) : decide (c ∈ L26.cps.toList) = lowC c := by
  rw [Bool.eq_iff_iff, decide_eq_true_eq]
  unfold lowC
  rw [Bool.and_eq_true, decide_eq_true_eq, decide_eq_true_eq]
  constructor
  · exact (show ∀ c, c ∈ L26.cps.toList → 97 ≤ c ∧ c ≤ 122 by decide) c
  · rintro ⟨h1, h2⟩
    have := l26_at (c - 97) (by omega)
    rw [show 97 + (c - 97) = c by omega] at this
    exact List.mem_of_getElem? this
abbrev s_is_name : Stmt := topS 10
theorem sc_is_name : FnScope ["thing", "sign"] ["thing"] (defScope s_is_name) := ⟨rfl, rfl, rfl, by decide +kernel, rfl, by decide +kernel, by decide +kernel⟩
theorem ok_is_name {f aW : Addr} {fd : FuncData} {k : Nat} {tn : Tok} {tl : Tok} (F : Fun K "is_name" "is_name" s_is_name f fd) (misi : mg "isinstance" = none) (mstr : mg "str" = none) (mlen : mg "len" = none) (mall : mg "all" = none)
    (mWORDS : mg "WORDS" = some (.ref aW)) (TW : KTx K aW BARW) (mLONGEST_NAME : mg "LONGEST_NAME" = some (.int 8 tn)) (mLETTERS : mg "LETTERS" = some (.str L26 tl)) : FnOk P w K mg base CX0 (k + 1) f fd ["thing"] (sp_isS K isN) := by
  have nd := sc_is_name.nd
  refine F.ok sc_is_name (fun vs H Q E h => ?_) (fun cdv A outer s H vs Q E hr h => ?_)
  · obtain ⟨v, d, ok, rfl, _⟩ := h
    rfl
  obtain ⟨v, d, ok, rfl, hd, hsh, q⟩ := h
  refine ⟨_, (pss_cons (ps_if (PW.pt (pw_or (pt_not (pt_val (pe_callB call_isi (by rfl) misi boot_isinstance (pa_cons (pv 0) (pa_cons (pe_bltn (v := .ty "str") (by rfl) mstr boot_str rfl) pa_nil)))))
        (pw_or1 (pt_not (pt_chain op_le op_le pe_int (pe_callB call_len_str (by rfl) mlen PySem.boot_len (pa_cons (pv 0) pa_nil)) (pe_glob (v := .int 8) rfl mLONGEST_NAME ⟨_, rfl⟩))))))
      (pss_one (ps_ret pe_bl))
      pss_nil)
      (pss_one (ps_ret (pe_and (pe_cmpR op_notIn_seq (pv 0) (pe_glob (v := .ref aW) rfl mWORDS rfl) (by rfl)) (pe_one (pe_callB (cr_all rfl) (by rfl) mall boot_all (pa_cons (pe_lc (own := [("sign", 1)]) (tt := tYes) (te := tOp (fun x y H Q => ∃ (c : Nat) (z : Str), x = .str ⟨#[c]⟩ ∧ y = .str z ∧ Q (.bl (decide (c ∈ z.cps.toList))) H) (tVar 1) (tC (.str L26))) rfl nd (pi_str (pv 0)) (blkOk_by (N := ["thing", "sign"]) (sc := defScope s_is_name) (by decide +kernel))
        (fun _ _ _ _ _ => (pg_name (i := 1) nd rfl (Or.inl rfl))) (fun _ _ _ _ _ => pts_nil) (fun _ _ _ _ _ => (pe_cmpR op_in_sign (pv 1) (pe_glob (v := .str L26) rfl mLETTERS ⟨_, rfl⟩) (by rfl)))) pa_nil))))))), ?_⟩
  have q0 := q H fun _ _ e => e
  refine ⟨v, rfl, v, .ty "str", _, _, _, rfl, .ty "str", hd.ty, kit_s K d, _, rfl, ?_⟩
  cases hd with
  | str z =>
    have hz := (hsh z rfl).1
    have q1 : ∀ H', Same H H' → Q (.bl ((decide (1 ≤ z.length) && decide (z.length ≤ 8)) && (!decide (z ∈ BARW) && z.cps.toList.all lowC))) H' := q
    have e1 : decide ((1 : Int) ≤ (z.length : Int)) = decide (1 ≤ z.length) := decide_eq_decide.mpr (by omega)
    have e2 : decide ((z.length : Int) ≤ (8 : Int)) = decide (z.length ≤ 8) := decide_eq_decide.mpr (by omega)
    refine iteF ⟨.str z, rfl, z, rfl, small_le hz, 1, (z.length : Int), rfl, rfl, _, rfl, ?_⟩
    rw [e1]
    cases c1 : decide (1 ≤ z.length) with
    | false =>
      rw [c1, Bool.false_and, Bool.false_and] at q1
      exact iteF ⟨_, rfl, iteT (q1 H fun _ _ e => e)⟩
    | true =>
    rw [c1, Bool.true_and] at q1
    refine iteT ⟨(z.length : Int), 8, rfl, rfl, _, rfl, ?_⟩
    rw [e2]
    cases c2 : decide (z.length ≤ 8) with
    | false =>
      rw [c2, Bool.false_and] at q1
      exact iteT (q1 H fun _ _ e => e)
    | true =>
    rw [c2, Bool.true_and] at q1
    refine iteF ⟨.str z, rfl, aW, BARW.map V.str, rfl, .inr (TW H), rfl, flat_strsW _, _, rfl, ?_⟩
    show if (!inV (.str z) (BARW.map V.str)) = true then _ else _
    rw [in_strs]
    cases c3 : decide (z ∈ BARW) with
    | true =>
      rw [c3] at q1
      exact iteF (q1 H fun _ _ e => e)
    | false =>
    rw [c3, Bool.not_false, Bool.true_and] at q1
    have hlen : z.cps.size ≤ 1000 := hz
    refine iteT ⟨.str z, rfl, z, rfl, fun D nD => ?_⟩
    refine lc_it walk_str (fun i H' => H' D = some (.lst (((z.cps.toList.take i).map lowC).map V.bl)) ∧ ∀ b o, b ≠ D → H b = some o → H' b = some o) ?_ (fun _ _ _ _ => trivial) ?_ ?_
    · exact ⟨upd_same, fun b o nb e => by rw [upd_ne nb]; exact e⟩
    · rintro i x H1 H' hi ⟨hD, kp⟩ ⟨rfl, c, hc, rfl⟩
      have hc' : z.cps.toList[i]? = some c := by rw [Array.getElem?_toList]; exact hc
      refine ⟨rfl, yes_then ⟨.str ⟨#[c]⟩, rfl, c, L26, rfl, rfl, _, hD, small1000 (by rw [List.length_map, List.length_map, List.length_take]; rw [Array.length_toList]; omega), ?_, fun b o nb e => by rw [upd_ne nb]; exact kp b o nb e⟩⟩
      rw [mem26, take_at hc', List.map_append, List.map_append]
      exact upd_same
    · rintro H1 ⟨hD, kp⟩
      have sD : Same H H1 := fun b o e => kp b o (ne_of_none e nD) e
      rw [← Array.length_toList, List.take_length] at hD
      refine ⟨D, z.cps.toList.map lowC, rfl, .inl (.inl hD), ?_⟩
      rw [List.all_map]
      exact q1 H1 sD
  | _ => exact iteT (iteT q0)
end
end K7

namespace K7
open PySem PySem.Spec PyProof.Rows L2 GR WX AD RZ ZE TX RVT
/-- a def of that name stands in the text's top under x -/
def HasA (K : PySem.W.Frag) (x y : Str) (st : Stmt) : Prop := ∃ (f : Addr) (fd : FuncData), PySem.W.nsIn K mainGlobals x = some (some (.ref f)) ∧ Fun K y y st f fd
theorem has_mk {K : PySem.W.Frag} {x y : Str} {st : Stmt} {f : Addr} {oc : Value} {od an : Option Addr} {osl : Array (Option Value)} {kV doc pm cdv ct : Value} (a : PySem.W.nsIn K mainGlobals x = some (some (.ref f)))
    (l : K.lookup f = some ⟨oc, od, .func (PySem.W.fnOf y y (defArgs st) (defBody st) (defScope st) .none kV doc pm an cdv ct), osl⟩) (c : PySem.W.codeIn K cdv y = true) (k : PySem.W.keepIn K (.ref f) = true) : HasA K x y st := ⟨f, _, a, fun_mk l c k⟩
theorem FnG.mono {P : Program} {w : World} {K : PySem.W.Frag} {mg : Str → Option Value} {base : Heap} {CX : CXT} {j k : Nat} {f : Addr} {fd : FuncData} {ps : List Str} {sp : Sp} (F : FnG P w K mg base CX j f fd ps sp) (h : j ≤ k) : FnG P w K mg base CX k f fd ps sp :=
  ⟨F.size, fun A outer s H args us vs Q E hg hr => F.go A outer s H args us vs Q E hg (hr.mono h)⟩
theorem ktx_mk {K : PySem.W.Frag} {p : Addr} {fs : List Str} {d : Option Addr} {its : Array Value} {n : Nat} {sl : Array (Option Value)} (l : K.lookup p = some ⟨.type "tuple", d, .seq its n, sl⟩) (hv : Vals (fs.map V.str) its.toList) (hs : fs.length ≤ 100) : KTx K p fs := fun H =>
  .inr ⟨_, its, n, l, rfl, rfl, by have h1 := hv.length; rw [List.length_map] at h1; have h2 : its.toList.length = its.size := Array.length_toList ..; exact small_le (by omega), hv⟩
/-- a method of that name stands in the class at C -/
def HasM (K : PySem.W.Frag) (C : Addr) (m q : Str) (st : Stmt) : Prop := ∃ (f : Addr) (fd : FuncData), Meth K C m f ∧ Fun K m q st f fd
theorem hasM_mk {K : PySem.W.Frag} {C : Addr} {m q : Str} {st : Stmt} {f : Addr} {oc : Value} {od an : Option Addr} {osl : Array (Option Value)} {kV doc pm cdv ct : Value} (a : PySem.W.findIn K (.ref C) m = some (some (.ref f))) (i : PySem.W.isFn K (.ref f) = true)
    (l : K.lookup f = some ⟨oc, od, .func (PySem.W.fnOf m q (defArgs st) (defBody st) (defScope st) .none kV doc pm an cdv ct), osl⟩) (c : PySem.W.codeIn K cdv q = true) (k : PySem.W.keepIn K (.ref f) = true) : HasM K C m q st := ⟨f, _, ⟨a, i, k⟩, fun_mk l c k⟩
theorem rc_mk {K : PySem.W.Frag} {C : Addr} (pg : PySem.W.plainGet K C Str.empty = true) (hd : PySem.W.hasDictIn K C = true) (po : PySem.W.plainOver K C = true) (sa : PySem.W.findIn K (.ref C) "__setattr__" = some (some (.builtin "object.__setattr__"))) (nT : PySem.W.findIn K (.ref C) "text" = some none) (nP : PySem.W.findIn K (.ref C) "place" = some none) : RC K C := ⟨⟨pg, hd, po, sa⟩, nT, nP⟩
theorem argT_mk {K : PySem.W.Frag} {w : World} {aA : Addr} {es : Array DictEntry} {n : Nat} (l : K.lookup aA = some ⟨.type "dict", none, .dict es n, #[]⟩) (kl : PySem.W.KeysLit w.params es.toList) (low : (aA == sysModules) = false)
    {t1 t2 t3 t4 t5 t6 : Tok} (q1 : PySem.W.nsIn K aA "if" = some (some (.int 3 t1))) (q2 : PySem.W.nsIn K aA "at" = some (some (.int 2 t2))) (q3 : PySem.W.nsIn K aA "count" = some (some (.int 1 t3))) (q4 : PySem.W.nsIn K aA "sum" = some (some (.int 2 t4))) (q5 : PySem.W.nsIn K aA "most" = some (some (.int 3 t5))) (q6 : PySem.W.nsIn K aA "first" = some (some (.int 2 t6))) : ArgT K w aA es n := by
  refine ⟨⟨l, kl, low⟩, fun o c h => ?_⟩
  simp only [argk, List.mem_cons, List.not_mem_nil, or_false, Prod.mk.injEq] at h
  rcases h with ⟨rfl, rfl⟩ | ⟨rfl, rfl⟩ | ⟨rfl, rfl⟩ | ⟨rfl, rfl⟩ | ⟨rfl, rfl⟩ | ⟨rfl, rfl⟩
  · exact ⟨t1, q1⟩
  · exact ⟨t2, q2⟩
  · exact ⟨t3, q3⟩
  · exact ⟨t4, q4⟩
  · exact ⟨t5, q5⟩
  · exact ⟨t6, q6⟩
theorem all_mk {P : Program} {w : World} {K : PySem.W.Frag} {h : Heap} {mg : Str → Option Value} {fa : Addr} (X : K.In h) (G : h.Ns mainGlobals mg) (hfa : mg "law" = some (.ref fa))
    (X_is_integer : HasA K "is_integer" "is_integer" s_is_integer)
    (X_is_value : HasA K "is_value" "is_value" s_is_value)
    (X_is_name : HasA K "is_name" "is_name" s_is_name)
    (X_rows_of : HasA K "rows_of" "rows_of" s_rows_of)
    (X_show_expression : HasA K "show_expression" "show_expression" s_show_expression)
    (X_pieces_of : HasA K "pieces_of" "pieces_of" s_pieces_of)
    (X_with_commas : HasA K "with_commas" "with_commas" s_with_commas)
    (X_read_expression : HasA K "read_expression" "read_expression" s_read_expression)
    (X_take_expression : HasA K "take_expression" "take_expression" s_take_expression)
    (X_take_operation : HasA K "take_operation" "take_operation" s_take_operation)
    (X_take_cell : HasA K "take_cell" "take_cell" s_take_cell)
    (X_take_call : HasA K "take_call" "take_call" s_take_call)
    (X_take_beginning : HasA K "take_beginning" "take_beginning" s_take_beginning)
    (X_take_arguments : HasA K "take_arguments" "take_arguments" s_take_arguments)
    (X_law_deck : HasA K "_law_deck" "_law_deck" s_law_deck)
    (X_law_draw : HasA K "_law_draw" "_law_draw" s_law_draw)
    (X_law_pick : HasA K "_law_pick" "_law_pick" s_law_pick)
    (X_law_names : HasA K "_law_names" "_law_names" s_law_names)
    (X_law_world : HasA K "_law_world" "_law_world" s_law_world)
    (X_law_leaf : HasA K "_law_leaf" "_law_leaf" s_law_leaf)
    (X_law_rows : HasA K "_law_rows" "_law_rows" s_law_rows)
    (X_law_term : HasA K "_law_term" "_law_term" s_law_term)
    (X_law_written : HasA K "_law_written" "_law_written" s_law_written)
    (X_law_right : HasA K "_law_right" "_law_right" s_law_right)
    (X_law_by_hand : HasA K "_law_by_hand" "_law_by_hand" s_law_by_hand)
    (X_law : HasA K "law" "law" s_law)
    (z_list : PySem.W.nsIn K mainGlobals "list" = some none) (z_sum : PySem.W.nsIn K mainGlobals "sum" = some none) (z_len : PySem.W.nsIn K mainGlobals "len" = some none) (z_range : PySem.W.nsIn K mainGlobals "range" = some none) (z_int : PySem.W.nsIn K mainGlobals "int" = some none) (z_bool : PySem.W.nsIn K mainGlobals "bool" = some none) (z_repr : PySem.W.nsIn K mainGlobals "repr" = some none) (z_tuple : PySem.W.nsIn K mainGlobals "tuple" = some none) (z_str : PySem.W.nsIn K mainGlobals "str" = some none) (z_isinstance : PySem.W.nsIn K mainGlobals "isinstance" = some none) (z_all : PySem.W.nsIn K mainGlobals "all" = some none)
    {tk_LIMIT : Tok} (c_LIMIT : PySem.W.nsIn K mainGlobals "LIMIT" = some (some (.int LIM tk_LIMIT))) {tk_LONGEST_NAME : Tok} (c_LONGEST_NAME : PySem.W.nsIn K mainGlobals "LONGEST_NAME" = some (some (.int 8 tk_LONGEST_NAME))) {tk_LONGEST_VALUE : Tok} (c_LONGEST_VALUE : PySem.W.nsIn K mainGlobals "LONGEST_VALUE" = some (some (.int 20 tk_LONGEST_VALUE))) {tk_DEEPEST : Tok} (c_DEEPEST : PySem.W.nsIn K mainGlobals "DEEPEST" = some (some (.int 30 tk_DEEPEST))) {tk_DEPTH_OF_ROWS : Tok} (c_DEPTH_OF_ROWS : PySem.W.nsIn K mainGlobals "DEPTH_OF_ROWS" = some (some (.int 2 tk_DEPTH_OF_ROWS)))
    {aW : Addr} (z_WORDS : PySem.W.nsIn K mainGlobals "WORDS" = some (some (.ref aW))) (T_WORDS : KTx K aW BARW) {aG : Addr} (z_AGG : PySem.W.nsIn K mainGlobals "AGGREGATES" = some (some (.ref aG))) (T_AGG : KTx K aG aggW) {tk_LET : Tok} (z_LETTERS : PySem.W.nsIn K mainGlobals "LETTERS" = some (some (.str L26 tk_LET)))
    {tk_DIG : Tok} (z_DIGITS : PySem.W.nsIn K mainGlobals "DIGITS" = some (some (.str DG tk_DIG))) {aOP : Addr} (z_OPER : PySem.W.nsIn K mainGlobals "OPERATIONS" = some (some (.ref aOP))) (T_OPER : KTx K aOP ops5)
    {aAR : Addr} {es3 : Array DictEntry} {nF3 : Nat} (z_ARGS : PySem.W.nsIn K mainGlobals "ARGUMENTS" = some (some (.ref aAR))) (T_ARGS : ArgT K w aAR es3 nF3)
    {C_R : Addr} (a_R : PySem.W.nsIn K mainGlobals "Reader" = some (some (.ref C_R))) (T_R : RC K C_R) (mk_R : PySem.W.makesIn K C_R = true) (kc_R : PySem.W.keepIn K (.ref C_R) = true)
    (Y_Minit : HasM K C_R "__init__" "Reader.__init__" s_init)
    (Y_Mis_next : HasM K C_R "is_next" "Reader.is_next" s_is_next)
    (Y_Mis_any_next : HasM K C_R "is_any_next" "Reader.is_any_next" s_is_any_next)
    (Y_Mtake : HasM K C_R "take" "Reader.take" s_take)
    (Y_Mtake_any : HasM K C_R "take_any" "Reader.take_any" s_take_any)
    (Y_Mtake_while : HasM K C_R "take_while" "Reader.take_while" s_take_while)
    (Y_Mtake_word : HasM K C_R "take_word" "Reader.take_word" s_take_word)
    (Y_Mtake_name : HasM K C_R "take_name" "Reader.take_name" s_take_name)
    (Y_Mtake_value : HasM K C_R "take_value" "Reader.take_value" s_take_value)
    (Y_Mtake_end : HasM K C_R "take_end" "Reader.take_end" s_take_end)
    : ∃ fd : FuncData, (∀ (s : Shared) (v : Value), BindsTo s fd ⟨[v], []⟩ [("_law_script", v)]) ∧ ∀ base : Heap, K.In base → base.Ns mainGlobals mg → FnG P w K mg base CX0 99 fa fd ["_law_script"] (sp_law K) := by
  obtain ⟨fis_integer, dis_integer, ais_integer, Fis_integer⟩ := X_is_integer
  have gis_integer := PySem.W.mg_of X G ais_integer
  have bis_integer : Binds K dis_integer ["thing"] [] := Fis_integer.binds (ps := ["thing"]) fun _ _ _ _ _ _ us hl => match us, hl with | [_], _ => rfl
  obtain ⟨fis_value, dis_value, ais_value, Fis_value⟩ := X_is_value
  have gis_value := PySem.W.mg_of X G ais_value
  have bis_value : Binds K dis_value ["thing"] [] := Fis_value.binds (ps := ["thing"]) fun _ _ _ _ _ _ us hl => match us, hl with | [_], _ => rfl
  obtain ⟨fis_name, dis_name, ais_name, Fis_name⟩ := X_is_name
  have gis_name := PySem.W.mg_of X G ais_name
  have bis_name : Binds K dis_name ["thing"] [] := Fis_name.binds (ps := ["thing"]) fun _ _ _ _ _ _ us hl => match us, hl with | [_], _ => rfl
  obtain ⟨frows_of, drows_of, arows_of, Frows_of⟩ := X_rows_of
  have grows_of := PySem.W.mg_of X G arows_of
  have brows_of : Binds K drows_of ["table"] [] := Frows_of.binds (ps := ["table"]) fun _ _ _ _ _ _ us hl => match us, hl with | [_], _ => rfl
  obtain ⟨fshow_expression, dshow_expression, ashow_expression, Fshow_expression⟩ := X_show_expression
  have gshow_expression := PySem.W.mg_of X G ashow_expression
  have bshow_expression : Binds K dshow_expression ["expression"] [] := Fshow_expression.binds (ps := ["expression"]) fun _ _ _ _ _ _ us hl => match us, hl with | [_], _ => rfl
  obtain ⟨fpieces_of, dpieces_of, apieces_of, Fpieces_of⟩ := X_pieces_of
  have gpieces_of := PySem.W.mg_of X G apieces_of
  have bpieces_of : Binds K dpieces_of ["expression"] [] := Fpieces_of.binds (ps := ["expression"]) fun _ _ _ _ _ _ us hl => match us, hl with | [_], _ => rfl
  obtain ⟨fwith_commas, dwith_commas, awith_commas, Fwith_commas⟩ := X_with_commas
  have gwith_commas := PySem.W.mg_of X G awith_commas
  have bwith_commas : Binds K dwith_commas ["pieces"] [] := Fwith_commas.binds (ps := ["pieces"]) fun _ _ _ _ _ _ us hl => match us, hl with | [_], _ => rfl
  obtain ⟨fread_expression, dread_expression, aread_expression, Fread_expression⟩ := X_read_expression
  have gread_expression := PySem.W.mg_of X G aread_expression
  have bread_expression : Binds K dread_expression ["thing"] [] := Fread_expression.binds (ps := ["thing"]) fun _ _ _ _ _ _ us hl => match us, hl with | [_], _ => rfl
  obtain ⟨ftake_expression, dtake_expression, atake_expression, Ftake_expression⟩ := X_take_expression
  have gtake_expression := PySem.W.mg_of X G atake_expression
  have btake_expression : Binds K dtake_expression ["reader", "room"] [] := Ftake_expression.binds (ps := ["reader", "room"]) fun _ _ _ _ _ _ us hl => match us, hl with | [_, _], _ => rfl
  obtain ⟨ftake_operation, dtake_operation, atake_operation, Ftake_operation⟩ := X_take_operation
  have gtake_operation := PySem.W.mg_of X G atake_operation
  have btake_operation : Binds K dtake_operation ["reader", "room"] [] := Ftake_operation.binds (ps := ["reader", "room"]) fun _ _ _ _ _ _ us hl => match us, hl with | [_, _], _ => rfl
  obtain ⟨ftake_cell, dtake_cell, atake_cell, Ftake_cell⟩ := X_take_cell
  have gtake_cell := PySem.W.mg_of X G atake_cell
  have btake_cell : Binds K dtake_cell ["reader", "table", "room"] [] := Ftake_cell.binds (ps := ["reader", "table", "room"]) fun _ _ _ _ _ _ us hl => match us, hl with | [_, _, _], _ => rfl
  obtain ⟨ftake_call, dtake_call, atake_call, Ftake_call⟩ := X_take_call
  have gtake_call := PySem.W.mg_of X G atake_call
  have btake_call : Binds K dtake_call ["reader", "word", "room"] [] := Ftake_call.binds (ps := ["reader", "word", "room"]) fun _ _ _ _ _ _ us hl => match us, hl with | [_, _, _], _ => rfl
  obtain ⟨ftake_beginning, dtake_beginning, atake_beginning, Ftake_beginning⟩ := X_take_beginning
  have gtake_beginning := PySem.W.mg_of X G atake_beginning
  have btake_beginning : Binds K dtake_beginning ["reader", "word", "room"] [] := Ftake_beginning.binds (ps := ["reader", "word", "room"]) fun _ _ _ _ _ _ us hl => match us, hl with | [_, _, _], _ => rfl
  obtain ⟨ftake_arguments, dtake_arguments, atake_arguments, Ftake_arguments⟩ := X_take_arguments
  have gtake_arguments := PySem.W.mg_of X G atake_arguments
  have btake_arguments : Binds K dtake_arguments ["reader", "many", "room"] [] := Ftake_arguments.binds (ps := ["reader", "many", "room"]) fun _ _ _ _ _ _ us hl => match us, hl with | [_, _, _], _ => rfl
  obtain ⟨f_law_deck, d_law_deck, a_law_deck, F_law_deck⟩ := X_law_deck
  have g_law_deck := PySem.W.mg_of X G a_law_deck
  have b_law_deck : Binds K d_law_deck ["_law_script"] [] := F_law_deck.binds (ps := ["_law_script"]) fun _ _ _ _ _ _ us hl => match us, hl with | [_], _ => rfl
  obtain ⟨f_law_draw, d_law_draw, a_law_draw, F_law_draw⟩ := X_law_draw
  have g_law_draw := PySem.W.mg_of X G a_law_draw
  have b_law_draw : Binds K d_law_draw ["_law_deck_here", "_law_most"] [] := F_law_draw.binds (ps := ["_law_deck_here", "_law_most"]) fun _ _ _ _ _ _ us hl => match us, hl with | [_, _], _ => rfl
  obtain ⟨f_law_pick, d_law_pick, a_law_pick, F_law_pick⟩ := X_law_pick
  have g_law_pick := PySem.W.mg_of X G a_law_pick
  have b_law_pick : Binds K d_law_pick ["_law_deck_here", "_law_some"] [] := F_law_pick.binds (ps := ["_law_deck_here", "_law_some"]) fun _ _ _ _ _ _ us hl => match us, hl with | [_, _], _ => rfl
  obtain ⟨f_law_names, d_law_names, a_law_names, F_law_names⟩ := X_law_names
  have g_law_names := PySem.W.mg_of X G a_law_names
  have b_law_names : Binds K d_law_names ["_law_deck_here", "_law_many"] [] := F_law_names.binds (ps := ["_law_deck_here", "_law_many"]) fun _ _ _ _ _ _ us hl => match us, hl with | [_, _], _ => rfl
  obtain ⟨f_law_world, d_law_world, a_law_world, F_law_world⟩ := X_law_world
  have g_law_world := PySem.W.mg_of X G a_law_world
  have b_law_world : Binds K d_law_world ["_law_deck_here"] [] := F_law_world.binds (ps := ["_law_deck_here"]) fun _ _ _ _ _ _ us hl => match us, hl with | [_], _ => rfl
  obtain ⟨f_law_leaf, d_law_leaf, a_law_leaf, F_law_leaf⟩ := X_law_leaf
  have g_law_leaf := PySem.W.mg_of X G a_law_leaf
  have b_law_leaf : Binds K d_law_leaf ["_law_deck_here", "_law_world_here"] [] := F_law_leaf.binds (ps := ["_law_deck_here", "_law_world_here"]) fun _ _ _ _ _ _ us hl => match us, hl with | [_, _], _ => rfl
  obtain ⟨f_law_rows, d_law_rows, a_law_rows, F_law_rows⟩ := X_law_rows
  have g_law_rows := PySem.W.mg_of X G a_law_rows
  have b_law_rows : Binds K d_law_rows ["_law_deck_here", "_law_world_here", "_law_deep", "_law_inside"] [] := F_law_rows.binds (ps := ["_law_deck_here", "_law_world_here", "_law_deep", "_law_inside"]) fun _ _ _ _ _ _ us hl => match us, hl with | [_, _, _, _], _ => rfl
  obtain ⟨f_law_term, d_law_term, a_law_term, F_law_term⟩ := X_law_term
  have g_law_term := PySem.W.mg_of X G a_law_term
  have b_law_term : Binds K d_law_term ["_law_deck_here", "_law_world_here", "_law_deep", "_law_inside"] [] := F_law_term.binds (ps := ["_law_deck_here", "_law_world_here", "_law_deep", "_law_inside"]) fun _ _ _ _ _ _ us hl => match us, hl with | [_, _, _, _], _ => rfl
  obtain ⟨f_law_written, d_law_written, a_law_written, F_law_written⟩ := X_law_written
  have g_law_written := PySem.W.mg_of X G a_law_written
  have b_law_written : Binds K d_law_written ["_law_thing"] [] := F_law_written.binds (ps := ["_law_thing"]) fun _ _ _ _ _ _ us hl => match us, hl with | [_], _ => rfl
  obtain ⟨f_law_right, d_law_right, a_law_right, F_law_right⟩ := X_law_right
  have g_law_right := PySem.W.mg_of X G a_law_right
  have b_law_right : Binds K d_law_right ["_law_thing"] [] := F_law_right.binds (ps := ["_law_thing"]) fun _ _ _ _ _ _ us hl => match us, hl with | [_], _ => rfl
  obtain ⟨f_law_by_hand, d_law_by_hand, a_law_by_hand, F_law_by_hand⟩ := X_law_by_hand
  have g_law_by_hand := PySem.W.mg_of X G a_law_by_hand
  have b_law_by_hand : Binds K d_law_by_hand [] [] := F_law_by_hand.binds (ps := []) fun _ _ _ _ _ _ us hl => match us, hl with | [], _ => rfl
  obtain ⟨f_law0, d_law0, a_law0, F_law0⟩ := X_law
  have e := hfa.symm.trans (PySem.W.mg_of X G a_law0)
  cases e
  obtain ⟨fMinit, dMinit, MMinit, FMinit⟩ := Y_Minit
  have bMinit : Binds K dMinit ["self", "text"] [] := FMinit.binds (ps := ["self", "text"]) fun _ _ _ _ _ _ us hl => match us, hl with | [_, _], _ => rfl
  obtain ⟨fMis_next, dMis_next, MMis_next, FMis_next⟩ := Y_Mis_next
  have bMis_next : Binds K dMis_next ["self", "piece"] [] := FMis_next.binds (ps := ["self", "piece"]) fun _ _ _ _ _ _ us hl => match us, hl with | [_, _], _ => rfl
  obtain ⟨fMis_any_next, dMis_any_next, MMis_any_next, FMis_any_next⟩ := Y_Mis_any_next
  have bMis_any_next : Binds K dMis_any_next ["self", "signs"] [] := FMis_any_next.binds (ps := ["self", "signs"]) fun _ _ _ _ _ _ us hl => match us, hl with | [_, _], _ => rfl
  obtain ⟨fMtake, dMtake, MMtake, FMtake⟩ := Y_Mtake
  have bMtake : Binds K dMtake ["self", "piece"] [] := FMtake.binds (ps := ["self", "piece"]) fun _ _ _ _ _ _ us hl => match us, hl with | [_, _], _ => rfl
  obtain ⟨fMtake_any, dMtake_any, MMtake_any, FMtake_any⟩ := Y_Mtake_any
  have bMtake_any : Binds K dMtake_any ["self", "pieces"] [] := FMtake_any.binds (ps := ["self", "pieces"]) fun _ _ _ _ _ _ us hl => match us, hl with | [_, _], _ => rfl
  obtain ⟨fMtake_while, dMtake_while, MMtake_while, FMtake_while⟩ := Y_Mtake_while
  have bMtake_while : Binds K dMtake_while ["self", "signs"] [] := FMtake_while.binds (ps := ["self", "signs"]) fun _ _ _ _ _ _ us hl => match us, hl with | [_, _], _ => rfl
  obtain ⟨fMtake_word, dMtake_word, MMtake_word, FMtake_word⟩ := Y_Mtake_word
  have bMtake_word : Binds K dMtake_word ["self"] [] := FMtake_word.binds (ps := ["self"]) fun _ _ _ _ _ _ us hl => match us, hl with | [_], _ => rfl
  obtain ⟨fMtake_name, dMtake_name, MMtake_name, FMtake_name⟩ := Y_Mtake_name
  have bMtake_name : Binds K dMtake_name ["self"] [] := FMtake_name.binds (ps := ["self"]) fun _ _ _ _ _ _ us hl => match us, hl with | [_], _ => rfl
  obtain ⟨fMtake_value, dMtake_value, MMtake_value, FMtake_value⟩ := Y_Mtake_value
  have bMtake_value : Binds K dMtake_value ["self"] [] := FMtake_value.binds (ps := ["self"]) fun _ _ _ _ _ _ us hl => match us, hl with | [_], _ => rfl
  obtain ⟨fMtake_end, dMtake_end, MMtake_end, FMtake_end⟩ := Y_Mtake_end
  have bMtake_end : Binds K dMtake_end ["self"] [] := FMtake_end.binds (ps := ["self"]) fun _ _ _ _ _ _ us hl => match us, hl with | [_], _ => rfl
  have M_R : Mk K C_R fMinit := ⟨mk_R, MMinit.at_, MMinit.fn, kc_R⟩
  have mlist := PySem.W.mg_none_of X G z_list
  have msum := PySem.W.mg_none_of X G z_sum
  have mlen := PySem.W.mg_none_of X G z_len
  have mrange := PySem.W.mg_none_of X G z_range
  have mint := PySem.W.mg_none_of X G z_int
  have mbool := PySem.W.mg_none_of X G z_bool
  have mrepr := PySem.W.mg_none_of X G z_repr
  have mtuple := PySem.W.mg_none_of X G z_tuple
  have mstr := PySem.W.mg_none_of X G z_str
  have misinstance := PySem.W.mg_none_of X G z_isinstance
  have mall := PySem.W.mg_none_of X G z_all
  have mLIMIT := PySem.W.mg_of X G c_LIMIT
  have mLONGEST_NAME := PySem.W.mg_of X G c_LONGEST_NAME
  have mLONGEST_VALUE := PySem.W.mg_of X G c_LONGEST_VALUE
  have mDEEPEST := PySem.W.mg_of X G c_DEEPEST
  have mDEPTH_OF_ROWS := PySem.W.mg_of X G c_DEPTH_OF_ROWS
  have mWORDS := PySem.W.mg_of X G z_WORDS
  have mAGG := PySem.W.mg_of X G z_AGG
  have mLETTERS := PySem.W.mg_of X G z_LETTERS
  have mDIGITS := PySem.W.mg_of X G z_DIGITS
  have mOPER := PySem.W.mg_of X G z_OPER
  have mARGS := PySem.W.mg_of X G z_ARGS
  obtain ⟨oc, od, kV, doc, pm, an, cdv, ct, osl, hfd, _, _⟩ := F_law0.ex
  refine ⟨d_law0, fun s v => ?_, fun base _ _ => ?_⟩
  · subst hfd
    exact .of_eq rfl
  · have Gdraw := ok_draw (P := P) (w := w) (mg := mg) (base := base) (k := 0) F_law_draw
    have Gpick := ok_pick (k := 1) F_law_pick Gdraw g_law_draw F_law_draw.kp b_law_draw mlen
    have Gnames := ok_names (k := 2) F_law_names (Gdraw.mono (by decide)) g_law_draw F_law_draw.kp b_law_draw Gpick g_law_pick F_law_pick.kp b_law_pick mrange mlen
    have Gworld := ok_world (k := 3) F_law_world (Gdraw.mono (by decide)) g_law_draw F_law_draw.kp b_law_draw (Gpick.mono (by decide)) g_law_pick F_law_pick.kp b_law_pick Gnames g_law_names F_law_names.kp b_law_names
    have Gdeck := ok_deck (P := P) (w := w) (mg := mg) (base := base) (k := 0) F_law_deck mlist msum mlen
    have Gleaf := ok_leaf (k := 2) F_law_leaf (Gdraw.mono (by decide)) g_law_draw F_law_draw.kp b_law_draw Gpick g_law_pick F_law_pick.kp b_law_pick
    have Gterm := ok_terms (k := 3) F_law_term F_law_rows (Gdraw.mono (by decide)) g_law_draw F_law_draw.kp b_law_draw (Gpick.mono (by decide)) g_law_pick F_law_pick.kp b_law_pick Gleaf g_law_leaf F_law_leaf.kp b_law_leaf g_law_rows F_law_rows.kp b_law_rows g_law_term F_law_term.kp b_law_term mrange mtuple 5
    have Gii := ok_is_integer (P := P) (w := w) (mg := mg) (base := base) (k := 0) Fis_integer misinstance mint mbool
    have Giv := ok_is_value (k := 1) Fis_value Gii gis_integer Fis_integer.kp bis_integer mLIMIT
    have Gin := ok_is_name (P := P) (w := w) (mg := mg) (base := base) (k := 0) Fis_name misinstance mstr mlen mall mWORDS T_WORDS mLONGEST_NAME mLETTERS
    have Grow := ok_rows_of (P := P) (w := w) (mg := mg) (base := base) (k := 0) Frows_of
    have Ri := ok_rinit (P := P) (w := w) (mg := mg) (base := base) (k := 0) FMinit T_R
    have Rn := ok_next (P := P) (w := w) (mg := mg) (base := base) (k := 0) FMis_next T_R
    have Ra := ok_anext (P := P) (w := w) (mg := mg) (base := base) (k := 0) FMis_any_next T_R
    have Rt := ok_take (k := 1) FMtake T_R Rn MMis_next bMis_next mlen
    have Ry := ok_tany (k := 2) FMtake_any T_R (Rn.mono (by decide)) MMis_next bMis_next Rt MMtake bMtake
    have Rw := ok_twhile (k := 1) FMtake_while T_R Ra MMis_any_next bMis_any_next
    have Ro := ok_tword (k := 2) FMtake_word T_R Rw MMtake_while bMtake_while mLETTERS
    have Rm := ok_tname (k := 3) FMtake_name T_R Ro MMtake_word bMtake_word (Gin.mono (by decide)) gis_name Fis_name.kp bis_name
    have Rv := ok_tvalue (k := 2) FMtake_value T_R (Rn.mono (by decide)) MMis_next bMis_next Rt MMtake bMtake Rw MMtake_while bMtake_while Giv gis_value Fis_value.kp bis_value mDIGITS mLONGEST_VALUE mlen mint mstr
    have Re := ok_tend (P := P) (w := w) (mg := mg) (base := base) (k := 0) FMtake_end T_R mlen
    have R : RdM P w K mg base C_R 4 := ⟨T_R, ⟨_, _, Rn.mono (by decide), MMis_next, bMis_next⟩, ⟨_, _, Ra.mono (by decide), MMis_any_next, bMis_any_next⟩, ⟨_, _, Rt.mono (by decide), MMtake, bMtake⟩, ⟨_, _, Ry.mono (by decide), MMtake_any, bMtake_any⟩, ⟨_, _, Ro.mono (by decide), MMtake_word, bMtake_word⟩, ⟨_, _, Rm, MMtake_name, bMtake_name⟩, ⟨_, _, Rv.mono (by decide), MMtake_value, bMtake_value⟩, ⟨_, _, Re.mono (by decide), MMtake_end, bMtake_end⟩⟩
    have XN : DF P w K mg base "is_name" ["thing"] (sp_isS K isN) 4 := ⟨_, _, Gin.mono (by decide), gis_name, Fis_name.kp, bis_name⟩
    have XR : DF P w K mg base "rows_of" ["table"] (sp_rows_of K) 4 := ⟨_, _, Grow.mono (by decide), grows_of, Frows_of.kp, brows_of⟩
    have XE := ok_texp (k := 4) Ftake_expression gtake_expression Ftake_expression.kp btake_expression Ftake_operation gtake_operation Ftake_operation.kp btake_operation Ftake_cell gtake_cell Ftake_cell.kp btake_cell Ftake_call gtake_call Ftake_call.kp btake_call Ftake_beginning gtake_beginning Ftake_beginning.kp btake_beginning Ftake_arguments gtake_arguments Ftake_arguments.kp btake_arguments R XN XR mOPER T_OPER mARGS T_ARGS mAGG T_AGG mDEPTH_OF_ROWS mlen 30
    have Grx := ok_read_expression (k := 95) Fread_expression M_R (PySem.W.mg_of X G a_R) (Ri.mono (by decide)) bMinit (R.up (by decide)) (XE.up (by decide)) (by decide) mDEEPEST misinstance mstr
    have GwL := ok_wcL (P := P) (w := w) (mg := mg) (base := base) (k := 0) Fwith_commas
    have GwT := ok_wcT (P := P) (w := w) (mg := mg) (base := base) (k := 0) Fwith_commas
    have Gpc := ok_pieces (ft := fwith_commas) (dt := dwith_commas) (k := 1) Fpieces_of GwL GwT gwith_commas Fwith_commas.kp bwith_commas mOPER T_OPER mAGG T_AGG mstr
    have Gse := ok_show_expression (k := 2) Fshow_expression Gpc gpieces_of Fpieces_of.kp bpieces_of misinstance mstr
    have Xt := ok_ltext (P := P) (w := w) (mg := mg) (base := base) (k := 0) F_law_written g_law_written F_law_written.kp b_law_written mstr 30
    have Gbh := ok_by_hand (P := P) (w := w) (mg := mg) (base := base) (k := 0) F_law_by_hand
    have XR : DF P w K mg base "read_expression" ["thing"] (sp_rex K 30) 97 := ⟨_, _, Grx, gread_expression, Fread_expression.kp, bread_expression⟩
    have XS : DF P w K mg base "show_expression" ["expression"] (sp_show K) 97 := ⟨_, _, Gse.mono (by decide), gshow_expression, Fshow_expression.kp, bshow_expression⟩
    have Gri := ok_right (k := 97) F_law_right (Xt.up (by decide)) XS XR mrepr
    exact ok_law (k := 98) F_law0 ⟨_, _, Gdeck.mono (by decide), g_law_deck, F_law_deck.kp, b_law_deck⟩ ⟨_, _, Gworld.mono (by decide), g_law_world, F_law_world.kp, b_law_world⟩ ⟨_, _, Gterm.mono (by decide), g_law_term, F_law_term.kp, b_law_term⟩ ⟨_, _, Gbh.mono (by decide), g_law_by_hand, F_law_by_hand.kp, b_law_by_hand⟩ ⟨_, _, Gpick.mono (by decide), g_law_pick, F_law_pick.kp, b_law_pick⟩ (Xt.up (by decide)) (XS.up (by decide)) (XR.up (by decide)) Gri g_law_right F_law_right.kp b_law_right mrange mrepr
end K7
open PySem PySem.W PyProof.Rows
set_option maxHeartbeats 0 in
theorem PySem.Challenge.cw_lookdone_k07_texts_of_expressions_holds : PySem.Challenge.rw_lookdone_k07_texts_of_expressions.Holds := by
  w_on; o_law; k_head; (case hw => w_witness2)
  k_fill
  refine GR.walk_g (l := PySem.Challenge.rw_lookdone_k07_texts_of_expressions) (n := 63) (k := 99) (x := "_law_script") (sp := K7.sp_law) rfl (by decide) rfl ⟨rfl, by decide, by decide⟩ (fun w h Y => PySem.W.kIn_of Y) ?F (fun _ _ a ns hl _ hS => ⟨a, ns, rfl, hS, fun _ => rfl⟩)
  case F =>
    intro w mg fa h KX G hmg
    refine' K7.all_mk KX G hmg (K7.has_mk (y := "is_integer") (st := K7.s_is_integer) ?a_is_integer ?l_is_integer ?c_is_integer ?k_is_integer) (K7.has_mk (y := "is_value") (st := K7.s_is_value) ?a_is_value ?l_is_value ?c_is_value ?k_is_value) (K7.has_mk (y := "is_name") (st := K7.s_is_name) ?a_is_name ?l_is_name ?c_is_name ?k_is_name) (K7.has_mk (y := "rows_of") (st := K7.s_rows_of) ?a_rows_of ?l_rows_of ?c_rows_of ?k_rows_of) (K7.has_mk (y := "show_expression") (st := K7.s_show_expression) ?a_show_expression ?l_show_expression ?c_show_expression ?k_show_expression) (K7.has_mk (y := "pieces_of") (st := K7.s_pieces_of) ?a_pieces_of ?l_pieces_of ?c_pieces_of ?k_pieces_of) (K7.has_mk (y := "with_commas") (st := K7.s_with_commas) ?a_with_commas ?l_with_commas ?c_with_commas ?k_with_commas) (K7.has_mk (y := "read_expression") (st := K7.s_read_expression) ?a_read_expression ?l_read_expression ?c_read_expression ?k_read_expression) (K7.has_mk (y := "take_expression") (st := K7.s_take_expression) ?a_take_expression ?l_take_expression ?c_take_expression ?k_take_expression) (K7.has_mk (y := "take_operation") (st := K7.s_take_operation) ?a_take_operation ?l_take_operation ?c_take_operation ?k_take_operation) (K7.has_mk (y := "take_cell") (st := K7.s_take_cell) ?a_take_cell ?l_take_cell ?c_take_cell ?k_take_cell) (K7.has_mk (y := "take_call") (st := K7.s_take_call) ?a_take_call ?l_take_call ?c_take_call ?k_take_call) (K7.has_mk (y := "take_beginning") (st := K7.s_take_beginning) ?a_take_beginning ?l_take_beginning ?c_take_beginning ?k_take_beginning) (K7.has_mk (y := "take_arguments") (st := K7.s_take_arguments) ?a_take_arguments ?l_take_arguments ?c_take_arguments ?k_take_arguments) (K7.has_mk (y := "_law_deck") (st := K7.s_law_deck) ?a_law_deck ?l_law_deck ?c_law_deck ?k_law_deck) (K7.has_mk (y := "_law_draw") (st := K7.s_law_draw) ?a_law_draw ?l_law_draw ?c_law_draw ?k_law_draw) (K7.has_mk (y := "_law_pick") (st := K7.s_law_pick) ?a_law_pick ?l_law_pick ?c_law_pick ?k_law_pick) (K7.has_mk (y := "_law_names") (st := K7.s_law_names) ?a_law_names ?l_law_names ?c_law_names ?k_law_names) (K7.has_mk (y := "_law_world") (st := K7.s_law_world) ?a_law_world ?l_law_world ?c_law_world ?k_law_world) (K7.has_mk (y := "_law_leaf") (st := K7.s_law_leaf) ?a_law_leaf ?l_law_leaf ?c_law_leaf ?k_law_leaf) (K7.has_mk (y := "_law_rows") (st := K7.s_law_rows) ?a_law_rows ?l_law_rows ?c_law_rows ?k_law_rows) (K7.has_mk (y := "_law_term") (st := K7.s_law_term) ?a_law_term ?l_law_term ?c_law_term ?k_law_term) (K7.has_mk (y := "_law_written") (st := K7.s_law_written) ?a_law_written ?l_law_written ?c_law_written ?k_law_written) (K7.has_mk (y := "_law_right") (st := K7.s_law_right) ?a_law_right ?l_law_right ?c_law_right ?k_law_right) (K7.has_mk (y := "_law_by_hand") (st := K7.s_law_by_hand) ?a_law_by_hand ?l_law_by_hand ?c_law_by_hand ?k_law_by_hand) (K7.has_mk (y := "law") (st := K7.s_law) ?a_law ?l_law ?c_law ?k_law) ?z_list ?z_sum ?z_len ?z_range ?z_int ?z_bool ?z_repr ?z_tuple ?z_str ?z_isinstance ?z_all ?c0_LIMIT ?c0_LONGEST_NAME ?c0_LONGEST_VALUE ?c0_DEEPEST ?c0_DEPTH_OF_ROWS ?z_WORDS (K7.ktx_mk (fs := ["key", "if", "at", "count", "sum", "most", "first", "let", "need", "put", "each", "tell"]) ?l_W ?v_W (by decide)) ?z_AGG (K7.ktx_mk (fs := ["count", "sum", "most", "first"]) ?l_G ?v_G (by decide)) ?z_LETTERS ?z_DIGITS ?z_OPER (K7.ktx_mk (fs := ["+", "-", "*", "<", "="]) ?l_O ?v_O (by decide)) ?z_ARGS (K7.argT_mk ?l_AR ?kl_AR ?low_AR ?q_AR0 ?q_AR1 ?q_AR2 ?q_AR3 ?q_AR4 ?q_AR5) ?a_R (K7.rc_mk ?pg_R ?hd_R ?po_R ?sa_R ?nT_R ?nP_R) ?mk_R ?kc_R (K7.hasM_mk (st := K7.s_init) ?ma_Minit ?mi_Minit ?ml_Minit ?mc_Minit ?mkp_Minit) (K7.hasM_mk (st := K7.s_is_next) ?ma_Mis_next ?mi_Mis_next ?ml_Mis_next ?mc_Mis_next ?mkp_Mis_next) (K7.hasM_mk (st := K7.s_is_any_next) ?ma_Mis_any_next ?mi_Mis_any_next ?ml_Mis_any_next ?mc_Mis_any_next ?mkp_Mis_any_next) (K7.hasM_mk (st := K7.s_take) ?ma_Mtake ?mi_Mtake ?ml_Mtake ?mc_Mtake ?mkp_Mtake) (K7.hasM_mk (st := K7.s_take_any) ?ma_Mtake_any ?mi_Mtake_any ?ml_Mtake_any ?mc_Mtake_any ?mkp_Mtake_any) (K7.hasM_mk (st := K7.s_take_while) ?ma_Mtake_while ?mi_Mtake_while ?ml_Mtake_while ?mc_Mtake_while ?mkp_Mtake_while) (K7.hasM_mk (st := K7.s_take_word) ?ma_Mtake_word ?mi_Mtake_word ?ml_Mtake_word ?mc_Mtake_word ?mkp_Mtake_word) (K7.hasM_mk (st := K7.s_take_name) ?ma_Mtake_name ?mi_Mtake_name ?ml_Mtake_name ?mc_Mtake_name ?mkp_Mtake_name) (K7.hasM_mk (st := K7.s_take_value) ?ma_Mtake_value ?mi_Mtake_value ?ml_Mtake_value ?mc_Mtake_value ?mkp_Mtake_value) (K7.hasM_mk (st := K7.s_take_end) ?ma_Mtake_end ?mi_Mtake_end ?ml_Mtake_end ?mc_Mtake_end ?mkp_Mtake_end)
    (case a_is_integer => k_is)
    (case l_is_integer => k_is)
    (case c_is_integer => k_is)
    (case k_is_integer => k_is)
    (case a_is_value => k_is)
    (case l_is_value => k_is)
    (case c_is_value => k_is)
    (case k_is_value => k_is)
    (case a_is_name => k_is)
    (case l_is_name => k_is)
    (case c_is_name => k_is)
    (case k_is_name => k_is)
    (case a_rows_of => k_is)
    (case l_rows_of => k_is)
    (case c_rows_of => k_is)
    (case k_rows_of => k_is)
    (case a_show_expression => k_is)
    (case l_show_expression => k_is)
    (case c_show_expression => k_is)
    (case k_show_expression => k_is)
    (case a_pieces_of => k_is)
    (case l_pieces_of => k_is)
    (case c_pieces_of => k_is)
    (case k_pieces_of => k_is)
    (case a_with_commas => k_is)
    (case l_with_commas => k_is)
    (case c_with_commas => k_is)
    (case k_with_commas => k_is)
    (case a_read_expression => k_is)
    (case l_read_expression => k_is)
    (case c_read_expression => k_is)
    (case k_read_expression => k_is)
    (case a_take_expression => k_is)
    (case l_take_expression => k_is)
    (case c_take_expression => k_is)
    (case k_take_expression => k_is)
    (case a_take_operation => k_is)
    (case l_take_operation => k_is)
    (case c_take_operation => k_is)
    (case k_take_operation => k_is)
    (case a_take_cell => k_is)
    (case l_take_cell => k_is)
    (case c_take_cell => k_is)
    (case k_take_cell => k_is)
    (case a_take_call => k_is)
    (case l_take_call => k_is)
    (case c_take_call => k_is)
    (case k_take_call => k_is)
    (case a_take_beginning => k_is)
    (case l_take_beginning => k_is)
    (case c_take_beginning => k_is)
    (case k_take_beginning => k_is)
    (case a_take_arguments => k_is)
    (case l_take_arguments => k_is)
    (case c_take_arguments => k_is)
    (case k_take_arguments => k_is)
    (case a_law_deck => k_is)
    (case l_law_deck => k_is)
    (case c_law_deck => k_is)
    (case k_law_deck => k_is)
    (case a_law_draw => k_is)
    (case l_law_draw => k_is)
    (case c_law_draw => k_is)
    (case k_law_draw => k_is)
    (case a_law_pick => k_is)
    (case l_law_pick => k_is)
    (case c_law_pick => k_is)
    (case k_law_pick => k_is)
    (case a_law_names => k_is)
    (case l_law_names => k_is)
    (case c_law_names => k_is)
    (case k_law_names => k_is)
    (case a_law_world => k_is)
    (case l_law_world => k_is)
    (case c_law_world => k_is)
    (case k_law_world => k_is)
    (case a_law_leaf => k_is)
    (case l_law_leaf => k_is)
    (case c_law_leaf => k_is)
    (case k_law_leaf => k_is)
    (case a_law_rows => k_is)
    (case l_law_rows => k_is)
    (case c_law_rows => k_is)
    (case k_law_rows => k_is)
    (case a_law_term => k_is)
    (case l_law_term => k_is)
    (case c_law_term => k_is)
    (case k_law_term => k_is)
    (case a_law_written => k_is)
    (case l_law_written => k_is)
    (case c_law_written => k_is)
    (case k_law_written => k_is)
    (case a_law_right => k_is)
    (case l_law_right => k_is)
    (case c_law_right => k_is)
    (case k_law_right => k_is)
    (case a_law_by_hand => k_is)
    (case l_law_by_hand => k_is)
    (case c_law_by_hand => k_is)
    (case k_law_by_hand => k_is)
    (case a_law => k_is)
    (case l_law => k_is)
    (case c_law => k_is)
    (case k_law => k_is)
    (case z_list => k_is)
    (case z_sum => k_is)
    (case z_len => k_is)
    (case z_range => k_is)
    (case z_int => k_is)
    (case z_bool => k_is)
    (case z_repr => k_is)
    (case z_tuple => k_is)
    (case z_str => k_is)
    (case z_isinstance => k_is)
    (case z_all => k_is)
    (case c0_LIMIT => k_is)
    (case c0_LONGEST_NAME => k_is)
    (case c0_LONGEST_VALUE => k_is)
    (case c0_DEEPEST => k_is)
    (case c0_DEPTH_OF_ROWS => k_is)
    (case z_WORDS => k_is)
    (case l_W => k_is)
    (case v_W => repeat (first | exact .nil | refine .cons ⟨_, rfl⟩ ?_))
    (case z_AGG => k_is)
    (case l_G => k_is)
    (case v_G => repeat (first | exact .nil | refine .cons ⟨_, rfl⟩ ?_))
    (case z_LETTERS => k_is)
    (case z_DIGITS => k_is)
    (case z_OPER => k_is)
    (case l_O => k_is)
    (case v_O => repeat (first | exact .nil | refine .cons ⟨_, rfl⟩ ?_))
    (case z_ARGS => k_is)
    (case l_AR => k_is)
    (case kl_AR => k_keys)
    (case low_AR => rfl)
    (case q_AR0 => k_is)
    (case q_AR1 => k_is)
    (case q_AR2 => k_is)
    (case q_AR3 => k_is)
    (case q_AR4 => k_is)
    (case q_AR5 => k_is)
    (case a_R => k_is)
    (case pg_R => k_is)
    (case hd_R => k_is)
    (case po_R => k_is)
    (case sa_R => k_is)
    (case nT_R => k_is)
    (case nP_R => k_is)
    (case mk_R => k_is)
    (case kc_R => k_is)
    (case ma_Minit => k_is)
    (case mi_Minit => k_is)
    (case ml_Minit => k_is)
    (case mc_Minit => k_is)
    (case mkp_Minit => k_is)
    (case ma_Mis_next => k_is)
    (case mi_Mis_next => k_is)
    (case ml_Mis_next => k_is)
    (case mc_Mis_next => k_is)
    (case mkp_Mis_next => k_is)
    (case ma_Mis_any_next => k_is)
    (case mi_Mis_any_next => k_is)
    (case ml_Mis_any_next => k_is)
    (case mc_Mis_any_next => k_is)
    (case mkp_Mis_any_next => k_is)
    (case ma_Mtake => k_is)
    (case mi_Mtake => k_is)
    (case ml_Mtake => k_is)
    (case mc_Mtake => k_is)
    (case mkp_Mtake => k_is)
    (case ma_Mtake_any => k_is)
    (case mi_Mtake_any => k_is)
    (case ml_Mtake_any => k_is)
    (case mc_Mtake_any => k_is)
    (case mkp_Mtake_any => k_is)
    (case ma_Mtake_while => k_is)
    (case mi_Mtake_while => k_is)
    (case ml_Mtake_while => k_is)
    (case mc_Mtake_while => k_is)
    (case mkp_Mtake_while => k_is)
    (case ma_Mtake_word => k_is)
    (case mi_Mtake_word => k_is)
    (case ml_Mtake_word => k_is)
    (case mc_Mtake_word => k_is)
    (case mkp_Mtake_word => k_is)
    (case ma_Mtake_name => k_is)
    (case mi_Mtake_name => k_is)
    (case ml_Mtake_name => k_is)
    (case mc_Mtake_name => k_is)
    (case mkp_Mtake_name => k_is)
    (case ma_Mtake_value => k_is)
    (case mi_Mtake_value => k_is)
    (case ml_Mtake_value => k_is)
    (case mc_Mtake_value => k_is)
    (case mkp_Mtake_value => k_is)
    (case ma_Mtake_end => k_is)
    (case mi_Mtake_end => k_is)
    (case ml_Mtake_end => k_is)
    (case mc_Mtake_end => k_is)
    (case mkp_Mtake_end => k_is)
